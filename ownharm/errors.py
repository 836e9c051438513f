"""The errors of the package: all stand directly under OwnharmError."""


class OwnharmError(ValueError):
    """Any error that the package tells."""


class BadProgram(OwnharmError):
    """The value is no program."""


class BadRoom(OwnharmError):
    """The value is no room."""


class BadRoomNumber(OwnharmError):
    """The value is the number of no room."""


class BadNumber(OwnharmError):
    """The value is no whole from 0 to 9999."""


class BadSteps(OwnharmError):
    """The value is no whole from 0 to 10 ** 6."""


class BadRow(OwnharmError):
    """The value is no row, or none that fits."""


class BadView(OwnharmError):
    """The value is no view."""


class BadFace(OwnharmError):
    """The value is no face."""


class BadSection(OwnharmError):
    """The value is no section, or none that fits."""


class BadBoard(OwnharmError):
    """The value is no board."""


class BadTree(OwnharmError):
    """The value is no tree, or none that fits."""


class BadPlace(OwnharmError):
    """The value is no place of a node of the room."""


class BadNode(OwnharmError):
    """The node cannot stand there."""


class BadTable(OwnharmError):
    """The value is no dict from names to names."""


class BadLength(OwnharmError):
    """The value is no whole from 0 on."""


class BadEvent(OwnharmError):
    """The value is no event in this state."""


class BadEntries(OwnharmError):
    """The section has not as many entries as the room's own."""


class BadInstruction(OwnharmError):
    """The value is no instruction."""


class BadAddress(OwnharmError):
    """The value is no address of the section."""


class BadSections(OwnharmError):
    """The value is no dict of sections that fit the program."""


class BadViews(OwnharmError):
    """The value is no list of views as it must be."""


class BadOrder(OwnharmError):
    """The value is no order of the rooms."""


class BadRooms(OwnharmError):
    """The value is no ascending tuple of rooms as it must be."""


class BadPrograms(OwnharmError):
    """The value is no list of programs as it must be."""


class BadRows(OwnharmError):
    """The value is no list of rows as it must be."""


class TooLong(OwnharmError):
    """More steps are needed than are allowed."""


class NotSmall(OwnharmError):
    """The value is no small room."""


class BadWish(OwnharmError):
    """The value is no wish."""


class BadLevels(OwnharmError):
    """The value is no whole from 1 to 30, nor None."""


class BadPlay(OwnharmError):
    """The value is no play of the room."""


class OtherMake(OwnharmError):
    """The two rooms are not of one make."""


class BadName(OwnharmError):
    """The value is no name."""


class NothingDone(OwnharmError):
    """There is no deed to take back."""


class BadMoment(OwnharmError):
    """The value is no moment of the bench."""


class NoPart(OwnharmError):
    """No part of the room has this name."""

    def __init__(self, part):
        super().__init__(f"no part of the room is called {part!r}")
        self.part = part


class NoRoom(OwnharmError):
    """No room of the program has this name."""

    def __init__(self, name):
        super().__init__(f"no room of the program is called {name!r}")
        self.name = name


class BadText(OwnharmError):
    """A token of the text cannot stand at this line and column."""

    def __init__(self, line, column):
        super().__init__(f"line {line}, column {column}: this token cannot stand here")
        self.line = line
        self.column = column


class BadEvents(OwnharmError):
    """The item with this index is no event; None: there is no list of events."""

    def __init__(self, at):
        super().__init__(f"the item {at} is no event here")
        self.at = at


class BadSectionText(OwnharmError):
    """The line with this index is wrong; None: the value is no text."""

    def __init__(self, line):
        super().__init__(f"the line {line} tells no part of a section here")
        self.line = line


class TooLarge(OwnharmError):
    """The section of the room with this number would have too many cells."""

    def __init__(self, room):
        super().__init__(f"the section of room {room} would have too many cells")
        self.room = room


class BadChange(OwnharmError):
    """The change with this index cannot be done; None: there is none."""

    def __init__(self, at):
        super().__init__(f"the change {at} cannot be done")
        self.at = at


class Unfit(OwnharmError):
    """The item with this index of the view of this room does not fit."""

    def __init__(self, room, at):
        super().__init__(f"the item {at} of the view of room {room} does not fit")
        self.room = room
        self.at = at


class Parted(OwnharmError):
    """Two views have unlike acts at this index and the same items ahead."""

    def __init__(self, one, other, at):
        super().__init__(f"the views {one} and {other} part at the item {at}")
        self.one = one
        self.other = other
        self.at = at


class TooMany(OwnharmError):
    """There would be more than this."""

    def __init__(self, most):
        super().__init__(f"there would be more than {most}")
        self.most = most


class Unexplained(OwnharmError):
    """The crossing with this index is not explained."""

    def __init__(self, at):
        super().__init__(f"the crossing {at} is not explained")
        self.at = at


class Harmful(OwnharmError):
    """Behind this view the room does an undefined step."""

    def __init__(self, view):
        super().__init__(f"behind the view {view} the room does an undefined step")
        self.view = view


class NotLaid(OwnharmError):
    """No section is laid for the room with this number."""

    def __init__(self, room):
        super().__init__(f"no section is laid for room {room}")
        self.room = room


class NotKept(OwnharmError):
    """No moment is kept by this name."""

    def __init__(self, name):
        super().__init__(f"no moment is kept by the name {name!r}")
        self.name = name
