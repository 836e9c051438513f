"""How much work a task is, told without a clock."""

import sys


def entered(task):
    """How many functions are entered while the task is done."""
    counts = [0]

    def count(frame, event, told):
        counts[0] += event == "call"

    sys.setprofile(count)
    try:
        task()
    finally:
        sys.setprofile(None)
    return counts[0]
