"""Copies between registers: those that are to be executed at once, executed one after the other."""

from registerways.tuples import in_tuples


def in_turn(copies, spare):
    """As few copies as possible that do in turn what the given ones do at once; spare is a register for their use."""
    turn = Turn(in_tuples(copies))
    while turn.waiting:
        if not turn.ready:
            turn.save_one(spare)
        turn.copy_one()
    return tuple(turn.done)


class Turn:
    """Copies that are executed one after the other.

    waiting is a dict from the target of each copy that is still to be executed
    to its source. places is a dict from the registers that are sources to where
    the value is that they have at the beginning. ready is a list of targets whose
    value at the beginning is not needed there any more.
    """

    def __init__(self, copies):
        self.waiting = {target: source for target, source in copies if source != ("reg", target)}
        sources = list(self.waiting.values())
        self.places = {value: value for kind, value in sources if kind == "reg"}
        self.ready = [target for target in self.waiting if target not in self.places]
        self.done = []

    def save_one(self, spare):
        """Copy a target to the spare register, so that it is ready; none is, so all that wait stand in rings."""
        target = next(iter(self.waiting), None)
        self.done.append((spare, ("reg", target)))
        self.places[target] = spare
        self.ready.append(target)

    def copy_one(self):
        """Execute the copy to a target that is ready."""
        target = self.ready.pop()
        kind, value = self.waiting.pop(target)
        if kind == "word":
            self.done.append((target, (kind, value)))
            return
        place = self.places[value]
        self.done.append((target, ("reg", place)))
        # Other copies take the value from here, so where it was may be overwritten.
        self.places[value] = target
        if place == value and value in self.waiting:
            self.ready.append(value)
