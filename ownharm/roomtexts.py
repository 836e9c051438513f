"""The texts of programs, rooms and expressions, and programs read from their texts."""

from ownharm.errors import BadPlace, BadText
from ownharm.needs import need_program, need_room
from ownharm.programreader import read_program
from ownharm.rooms import node_at
from ownharm.syntax import STATEMENTS, WORD_SIGNS


def value_text(value):
    """The text of an expression."""
    word = value[0]
    if word == "number":
        return str(value[1])
    if word == "local":
        return value[1]
    if word == "cell":
        return f"{value[1]}[{value_text(value[2])}]"
    if word == "run":
        arguments = ", ".join([value_text(argument) for argument in value[2]])
        return f"{value[1]}({arguments})"
    if word == "ask":
        return f"{value[1]}.{value[2]}({value_text(value[3])})"
    return f"({value_text(value[1])} {WORD_SIGNS[word]} {value_text(value[2])})"


def statement_lines(statement, indent):
    """The list of the lines of a statement, the first one behind this indent."""
    word = statement[0]
    if word == "let":
        return [f"{indent}{statement[1]} = {value_text(statement[2])}"]
    if word == "store":
        return [f"{indent}{statement[1]}[{value_text(statement[2])}] = {value_text(statement[3])}"]
    if word == "if":
        lines = [f"{indent}if {value_text(statement[1])}"] + body_lines(statement[2], indent + "  ")
        if statement[3]:
            lines = lines + [indent + "else"] + body_lines(statement[3], indent + "  ")
        return lines
    if word == "while":
        return [f"{indent}while {value_text(statement[1])}"] + body_lines(statement[2], indent + "  ")
    if word == "give":
        return [f"{indent}give {value_text(statement[1])}"]
    return [indent + "stop"]


def body_lines(body, indent):
    """The list of the lines of the statements of a body."""
    return [line for statement in body for line in statement_lines(statement, indent)]


def block_line(block):
    """The line of a block."""
    told = ["-" if value is None else str(value) for value in block[1]]
    return " ".join(["  block", block[0]] + told)


def room_lines(source):
    """The list of the lines of a room."""
    name, imports, blocks, functions, doors = source
    lines = ["room " + name]
    if imports:
        lines.append(" ".join(["  uses"] + [f"{room}.{door}" for room, door in imports]))
    for block in blocks:
        lines.append(block_line(block))
    for function in functions:
        lines.append(" ".join(["  function", function[0]] + list(function[1])))
        lines.extend(body_lines(function[2], "    "))
    for door in doors:
        lines.append(f"  door {door[0]} {door[1]} {door[2]}")
        lines.extend(body_lines(door[3], "    "))
    return lines


def program_text(program):
    """The text of a program."""
    need_program(program)
    lines = [f"depth {program[0]}"] + [line for source in program[1] for line in room_lines(source)]
    return "\n".join(lines)


def room_text(source):
    """The lines of one room alone."""
    need_room(source)
    return "\n".join(room_lines(source))


def expr_text(source, place):
    """The text of the expression at a place."""
    node = node_at(source, place)
    if node[0] in STATEMENTS:
        raise BadPlace("the node there is a statement")
    return value_text(node)


def program_of(text):
    """The program whose text it is; BadText with the first place that is wrong."""
    if not isinstance(text, str):
        raise BadText(1, 1)
    return read_program(text)
