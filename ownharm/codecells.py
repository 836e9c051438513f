"""The cells of a section while they are laid, with the places of the steps that they do."""

# The least numbers of the instructions, their digits b, c, d being 0; these count 100, 10 and 1.
STOP = 0
SET = 1000
GET = 2000
PUT = 2005
REST = 3000
PLUS = 4000
MINUS = 5000
LESS = 7000
JUMP = 8000
ASK = 9000
GIVE = 9005
# For the signs that are instructions of the machine.
SIGNS = {"rest": 3000, "plus": 4000, "minus": 5000, "times": 6000, "less": 7000}
# Registers 1 to 9 become 0, one after another: each is what it is less itself.
CLEARED = (5111, 5222, 5333, 5444, 5555, 5666, 5777, 5888, 5999)

# The label that tells how many slots a frame has; the other labels are the names of blocks and tell where these begin.
FRAME_SIZE = ""


class CodeCells:
    """Cells laid one behind another; what is not known yet is told by labels and filled in at the end.

    marks are the triples (address, part, at) of the cells that do the steps of places. entries are the addresses of
    the parts by their names.
    """

    def __init__(self):
        self.numbers = []
        self.marks = []
        self.entries = {}
        self.labels = {}
        self.holes = []

    def put_label(self, reg, label):
        """Lays a set of a register to what the label will tell."""
        self.numbers.append(SET + 100 * reg)
        self.holes.append((len(self.numbers), label))
        self.numbers.append(0)

    def fill(self):
        """Fills in what the labels tell."""
        for at, label in self.holes:
            self.numbers[at] = self.labels[label]

    def places(self):
        """The list of the places whose steps the cells do, None for those that do none."""
        found = [None] * len(self.numbers)
        for address, part, at in self.marks:
            found[address] = (part, at)
        return found
