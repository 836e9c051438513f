"""Lines of a text as rows of tokens, which are taken one behind another."""

from ownharm.errors import BadText
from ownharm.kinds import good_name, is_written_whole

# The end of a line is a token, too; no other one is an empty string.
END = ""
# What words are made of.
WORD_SIGNS = "abcdefghijklmnopqrstuvwxyzABCDEFGHIJKLMNOPQRSTUVWXYZ0123456789_"


def tokens_in(line):
    """The list of the tokens of a line as pairs (token, column from 1), without its end."""
    text = line.partition("#")[0]
    size = len(text)
    found = []
    at = 0
    while at < size:
        behind = at + 1
        if text[at] in WORD_SIGNS:
            while behind < size and text[behind] in WORD_SIGNS:
                behind += 1
        if text[at] != " ":
            found.append((text[at:behind], at + 1))
        at = behind
    return found


class TokenLine:
    """A line that is read token by token; what cannot stand raises BadText with its place."""

    def __init__(self, line, tokens):
        last, column = tokens[-1]
        self.line = line
        self.tokens = tokens + [(END, column + len(last))]
        self.indent = tokens[0][1] - 1
        self.taken = 0

    def word(self):
        """The next token."""
        return self.tokens[self.taken][0]

    def place(self):
        """The line and the column of the next token."""
        return (self.line, self.tokens[self.taken][1])

    def fail(self):
        """The next token cannot stand here."""
        line, column = self.place()
        raise BadText(line, column)

    def skip(self):
        """Takes the next token, whatever it is."""
        self.taken += 1

    def take(self, token):
        """Takes the next token, which must be this one."""
        if self.word() != token:
            self.fail()
        self.taken += 1

    def take_name(self, barred):
        """Takes a name that is none of the barred ones."""
        word = self.word()
        if not good_name(word) or word in barred:
            self.fail()
        self.taken += 1
        return word

    def take_whole(self, low, high):
        """Takes a whole from low to high."""
        word = self.word()
        if not is_written_whole(word) or len(word) > len(str(high)) or not low <= int(word) <= high:
            self.fail()
        self.taken += 1
        return int(word)

    def end(self):
        """The line must have no token more."""
        if self.word() != END:
            self.fail()


def token_lines(text):
    """The list of the lines of a text that have tokens."""
    found = []
    for at, line in enumerate(text.split("\n")):
        tokens = tokens_in(line)
        if tokens:
            found.append(TokenLine(at + 1, tokens))
    return found


def text_end(text):
    """The end of a text as a line of its own: two lines behind its last newline, at column 1."""
    return TokenLine(text.count("\n") + 2, [(END, 1)])
