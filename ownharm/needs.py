"""Raises the errors of the parameters that are called alike in all parts."""

from ownharm.errors import BadNumber, BadProgram, BadRoom, BadRoomNumber, BadSteps
from ownharm.kinds import is_number, is_whole
from ownharm.roomcheck import good_program, good_room

MOST_STEPS = 1000000


def need_room(source):
    """BadRoom for what is no room."""
    if not good_room(source):
        raise BadRoom("the value is no room")


def need_program(program):
    """BadProgram for what is no program."""
    if not good_program(program):
        raise BadProgram("the value is no program")


def need_room_number(room, many):
    """BadRoomNumber for what is no number of one of so many rooms."""
    if not is_whole(room, 0, many - 1):
        raise BadRoomNumber("the value is no number of a room")


def need_number(number):
    """BadNumber for what is no number."""
    if not is_number(number):
        raise BadNumber("the value is no whole from 0 to 9999")


def need_steps(steps):
    """BadSteps for what is no whole that a call may be told as steps."""
    if not is_whole(steps, 0, MOST_STEPS):
        raise BadSteps("the value is no whole from 0 to 10 ** 6")
