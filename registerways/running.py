"""Running a program."""

from registerways.executing import Execution
from registerways.tuples import in_tuples


class Result:
    """What a run has told and given, and the fuel that it has spent; given is None if it has not given anything."""

    def __init__(self, told, given, spent):
        self.told = in_tuples(told)
        self.given = in_tuples(given)
        self.spent = spent


def run(program, inputs, fuel=200):
    """The result of a run of a program; raises WrongCount(0) if there are too few or too many inputs."""
    return completed(Execution(program.blocks, inputs), fuel)


def completed(execution, fuel):
    """The result of an execution that goes on as long as there is fuel."""
    while execution.goes_on(fuel):
        execution.execute()
    return Result(execution.told, execution.given, execution.spent)


def trail(program, inputs, fuel=200):
    """Give a pair (point, words) before each instruction and each end that run executes.

    words is a dict from the variables that have been assigned so far to their values.
    """
    execution = Execution(program.blocks, inputs)
    while execution.goes_on(fuel):
        yield (execution.point, dict(execution.words))
        execution.execute()
