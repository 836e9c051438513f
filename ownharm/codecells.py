"""The cells of a section while they are laid, with the place of the step that each one does."""

from ownharm.sections import instruction_number


class CodeCells:
    """Cells laid one behind another; what is not known yet is told by labels and filled in at the end.

    places has an item for each cell: the place of the step that its instruction does, or None.
    """

    def __init__(self):
        self.numbers = []
        self.places = []
        self.labels = {}
        self.holes = []

    def put_number(self, number):
        """Lays a cell that holds a number and does no step."""
        self.numbers.append(number)
        self.places.append(None)

    def put(self, told, place=None):
        """Lays an instruction, which does the step of the place, if one is told."""
        self.numbers.append(instruction_number(told))
        self.places.append(place)

    def put_set(self, reg, number, place=None):
        """Lays a set of a register to a number."""
        self.put(("set", reg), place)
        self.put_number(number)

    def put_label(self, reg, label):
        """Lays a set of a register to what the label will tell."""
        self.put(("set", reg))
        self.holes.append((len(self.numbers), label))
        self.put_number(0)

    def put_leap(self, reg, label, place=None):
        """Lays a jump to a label, with the help of a register; it is done always, for no such label tells 0."""
        self.put_label(reg, label)
        self.put(("jump", reg, reg), place)

    def new_label(self):
        """A label that is told nothing yet."""
        label = len(self.labels)
        self.labels[label] = None
        return label

    def tell(self, label, number):
        """The label tells a number."""
        self.labels[label] = number

    def mark(self, label):
        """The label tells the address of the cell that is laid next."""
        self.labels[label] = len(self.numbers)

    def fill(self):
        """Fills in what the labels tell."""
        for at, label in self.holes:
            self.numbers[at] = self.labels[label]
