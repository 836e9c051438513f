"""A room alone: its states, and what it does beside any events."""

from ownharm.errors import BadEvent, BadEvents
from ownharm.kinds import is_number, is_tuple, is_whole
from ownharm.needs import need_program, need_room_number, need_steps
from ownharm.roomalone import RoomAlone, starting_state
from ownharm.rooms import room_wires


def need_room_of(program, room):
    """BadProgram, BadRoomNumber; the room of the program with the number."""
    need_program(program)
    need_room_number(room, len(program[1]))
    return program[1][room]


def is_event(source, waits, event):
    """Whether any value is an event of the room while these runnings wait."""
    if is_tuple(event, 3, 3):
        return event[0] == "in" and is_whole(event[1], 0, len(source[4]) - 1) and is_number(event[2])
    if is_tuple(event, 2, 2):
        return event[0] == "got" and is_number(event[1]) and len(waits) > 0
    return False


def outcome(alone, event, steps):
    """What the room does behind an event: its act, its undefined step, or None."""
    if event[0] == "in":
        alone.begin(event[1], event[2])
    else:
        alone.answer(event[1])
    return alone.advance(steps)[1]


def ends_all(act):
    """Whether nothing comes behind what was done, or was not."""
    return act is None or act[0] == "ends" or act[0] == "undefined"


def first_state(program, room):
    """The state in which no running is there and the cells have their first values."""
    return starting_state(need_room_of(program, room))


def moved(program, room, state, event, steps=2000):
    """The pair of the state behind the next act, None if nothing comes behind, and the act."""
    source = need_room_of(program, room)
    if not is_event(source, state[1], event):
        raise BadEvent("the value is no event in this state")
    need_steps(steps)
    alone = RoomAlone(source, room_wires(program, source))
    alone.enter_state(state)
    act = outcome(alone, event, steps)
    if ends_all(act):
        return (None, act)
    return (alone.moment(), act)


def view_alone(program, room, events, steps=2000):
    """The list of the events and of what the room does behind each of them, by turns."""
    source = need_room_of(program, room)
    if not isinstance(events, (list, tuple)):
        raise BadEvents(None)
    need_steps(steps)
    alone = RoomAlone(source, room_wires(program, source))
    view = []
    for at, event in enumerate(events):
        if not is_event(source, alone.waits, event):
            raise BadEvents(at)
        view.append(event)
        act = outcome(alone, event, steps)
        if act is not None:
            view.append(act)
        if ends_all(act):
            return view
    return view
