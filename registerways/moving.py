"""Reassignments of an allocation, one after the other, in which variables may follow others."""


class Moves:
    """The reassignments that have been made since an allocation, if there is a register to spare.

    registers is a dict from each variable to its present register; steps is
    the list of the reassignments, as tuples (name, former register, new register).
    """

    def __init__(self, allocation):
        order = allocation.program.order
        self.registers = {name: allocation[name] for name in order}
        self.steps = []
        self._followers = {name: [] for name in order}

    def merge(self, part):
        """Make one merge, as merging describes it: then each follower has the register of whom it follows."""
        still, pairs, others = part
        self.bring(self.targets(still, pairs, others), still)
        for name, partner in pairs:
            self._followers[partner].append(name)

    def targets(self, still, pairs, others):
        """A dict from each variable that is not still to the register to which a merge brings it."""
        found = {name: self.registers[partner] for name, partner in pairs}
        wanted = list(found.values())
        barred = wanted + [self.registers[name] for name in [*still, *others]]
        for name in others:
            reg = self.registers[name]
            if reg in wanted:
                reg = least_but(barred)
                barred.append(reg)
            found[name] = reg
        return found

    def bring(self, targets, still):
        """Bring each variable among targets to the register that stands there.

        They and the variables of still conflict with one another, and with no
        others that do not follow any.
        """
        holders = {self.registers[name]: name for name in [*still, *targets]}
        waiting = [name for name in targets if self.registers[name] != targets[name]]
        while waiting:
            stuck = []
            for name in waiting:
                if targets[name] in holders:
                    stuck.append(name)
                else:
                    self.carry(name, targets[name], holders)
            if len(stuck) == len(waiting):
                # They stand in rings: each place is taken by the next one.
                self.carry(stuck[0], least_but(holders), holders)
            waiting = stuck

    def carry(self, name, reg, holders):
        """Reassign a variable, and tell holders, a dict from the registers of a set to their variables."""
        del holders[self.registers[name]]
        holders[reg] = name
        self.reassign(name, reg)

    def reassign(self, name, reg):
        """Reassign a variable, and all that follow it."""
        waiting = [name]
        while waiting:
            present = waiting.pop()
            self.steps.append((present, self.registers[present], reg))
            self.registers[present] = reg
            waiting.extend(self._followers[present])


def least_but(barred):
    """The least register that is not barred."""
    reg = 0
    while reg in barred:
        reg += 1
    return reg
