"""Compares a room with what changes made of it ([46]): alone beside drawn events, and in the rows of programs."""

from ownharm.alone import view_alone
from ownharm.machine import Machine
from ownharm.meaning import Run
from ownharm.rows import view_of
from plainroom import PlainRoom


class PromiseCheck:
    """The room number 1 of a program ahead of changes, and the same room behind them."""

    def __init__(self, case, ahead, behind, one_change=True):
        self.case = case
        self.ahead = ahead
        self.behind = behind
        # What is told of one change: at most 200 steps go for each that stays, and 200 more.
        self.factor = 201 if one_change else None

    def alone(self, rng, many):
        """Drawn events; how many acts were the same, and what came at the end."""
        one, other = PlainRoom(self.ahead, 1), PlainRoom(self.behind, 1)
        doors = len(one.source[4])
        for done in range(many):
            number = rng.choice([0, 1, 2, 3, 7, 9999])
            waits = len(one.runnings)
            event = ("got", number) if waits and rng.random() < 0.7 else ("in", rng.randrange(doors), number)
            one.come_in(event)
            other.come_in(event)
            act, steps = one.act_within(1500)
            if act is None:
                if self.factor is not None:
                    self.case.assertIsNone(other.act_within(6)[0])
                return done, "silent"
            if act[0] == "undefined":
                return done, "undefined"
            told, other_steps = other.act_within(10 ** 5)
            self.case.assertEqual(told, act)
            if self.factor is not None:
                self.case.assertLessEqual(steps, self.factor * other_steps + 200)
            self.case.assertEqual(len(one.runnings), len(other.runnings))
            if act[0] == "ends":
                return done, "ends"
        return many, "over"

    def compare_rows(self, row, told):
        """One of the rows is a beginning of the other one."""
        shorter = min(len(row), len(told))
        self.case.assertEqual(row[:shorter], told[:shorter])

    def rows(self, number, boards):
        """The rows of the programs, and of the machine on two boards."""
        run, other = Run(self.ahead, number), Run(self.behind, number)
        run.go(1000)
        other.go(4000)
        if run.fault is None:
            self.compare_rows(run.row, other.row)
        elif run.fault[0] == 1:
            self.compare_rows(run.row, other.row[:len(run.row)])
        else:
            self.case.assertEqual((other.row, other.state, other.fault), (run.row, "undefined", run.fault))
        if boards is not None:
            machine, changed = Machine(boards[0], number), Machine(boards[1], number)
            machine.go(4000)
            changed.go(12000)
            if run.fault is None:
                self.compare_rows(machine.row, changed.row)
            else:
                self.compare_rows(machine.row[:len(run.row)], changed.row)
        return len(run.row)

    def foreign_rows(self, number, boards):
        """The rows of the machine beside foreign sections, until the room alone has done an undefined step."""
        machine, changed = Machine(boards[0], number), Machine(boards[1], number)
        machine.go(3000)
        changed.go(9000)
        row = machine.row
        alone = view_alone(self.ahead, 1, view_of(row, 1)[::2])
        if alone and alone[-1][0] == "undefined":
            # Up to the crossing with which the last event ahead of the undefined step came in.
            while len(view_of(row, 1)[::2]) > len(alone) // 2:
                row.pop()
            while row[-1][0] in ("deep", "done", "end") or (row[-1][0] in ("call", "back") and row[-1][2] != 1):
                row.pop()
            self.compare_rows(row, changed.row[:len(row)])
        else:
            self.compare_rows(row, changed.row)
