"""What the document says of points, conflicts and allocations, followed word by word and slowly."""

import functools
import itertools


def points(blocks):
    return [(b, j) for b, (_, instructions, _) in enumerate(blocks) for j in range(len(instructions) + 1)]


@functools.lru_cache(maxsize=64)
def steps(blocks):
    """All steps, as (point, the point that is reached or None, the operands that are used)."""
    found = []
    for b, (_, instructions, end) in enumerate(blocks):
        for j, instruction in enumerate(instructions):
            used = instruction[1:] if instruction[0] == "tell" else instruction[2:]
            found.append(((b, j), (b, j + 1), tuple(used)))
        last = (b, len(instructions))
        if end[0] == "give":
            found.append((last, None, tuple(end[1])))
        elif end[0] == "go":
            found.append((last, (end[1], 0), tuple(end[2])))
        else:
            found.append((last, (end[2], 0), (end[1],) + tuple(end[3])))
            found.append((last, (end[4], 0), (end[1],) + tuple(end[5])))
    return found


@functools.lru_cache(maxsize=64)
def targets(blocks):
    """For each point the set of the points to which steps lead from it."""
    found = {point: set() for point in points(blocks)}
    for source, target, _ in steps(blocks):
        if target is not None:
            found[source].add(target)
    return found


@functools.lru_cache(maxsize=64)
def users(blocks):
    """For each name the set of the points from which a step uses it."""
    found = {}
    for source, _, used in steps(blocks):
        for operand in used:
            found.setdefault(operand, set()).add(source)
    return found


@functools.lru_cache(maxsize=64)
def places(blocks):
    """The points at which the variables are assigned."""
    found = {}
    for b, (parameters, instructions, _) in enumerate(blocks):
        for name in parameters:
            found[name] = (b, 0)
        for j, instruction in enumerate(instructions):
            if instruction[0] != "tell":
                found[instruction[0]] = (b, j + 1)
    return found


def is_use_path(blocks, path, name):
    """Whether a tuple of points is a path as in [18] for its first point."""
    return (
        len(path) > 0
        and all(target in targets(blocks)[source] for source, target in zip(path, path[1:]))
        and path[-1] in users(blocks).get(name, ())
        and places(blocks)[name] not in path[1:]
    )


def points_of_shortest_use_path(blocks, point, name):
    """How many points the shortest path as in [18] has, or None if there is none."""
    wanted = users(blocks).get(name, set())
    seen = set()
    present = {point}
    many = 1
    while present:
        if present & wanted:
            return many
        seen |= present
        present = {target for source in present for target in targets(blocks)[source]} - seen
        present.discard(places(blocks)[name])
        many += 1
    return None


def live(blocks, point):
    return {name for name in places(blocks) if points_of_shortest_use_path(blocks, point, name) is not None}


def held(blocks, point):
    return live(blocks, point) | {name for name, place in places(blocks).items() if place == point}


@functools.lru_cache(maxsize=64)
def conflicts(blocks):
    """The set of all (x, y), both ways round, that are held at one point."""
    found = set()
    for point in points(blocks):
        found.update(itertools.permutations(held(blocks, point), 2))
    return found


def allocations(order, pairs, size):
    """The ascending list of the registers of all allocations."""
    at = {name: number for number, name in enumerate(order)}
    return [
        registers for registers in itertools.product(range(size), repeat=len(order))
        if all(registers[at[x]] != registers[at[y]] for x, y in pairs)
    ]


def executed(text, inputs, fuel):
    """Runs the text of a program: its told and given words, its fuel, and (point, words) before each line."""
    blocks = []
    for line in text.split("\n"):
        parts = line.split(" ")
        if parts[0] == "block":
            blocks.append([])
        blocks[-1].append(parts)
    words = dict(zip(blocks[0][0][1:], inputs))
    told, given, seen, b, j = [], None, [], 0, 0

    def value(part):
        return int(part) if part.isdigit() else words[part]

    while given is None and len(seen) < fuel:
        seen.append(((b, j), dict(words)))
        parts = blocks[b][j + 1]
        j += 1
        if parts[0] == "if":
            middle = parts.index("else")
            parts = ["go"] + (parts[2:middle] if value(parts[1]) else parts[middle + 1:])
        if parts[0] == "tell":
            told.append(value(parts[1]))
        elif parts[0] == "give":
            given = tuple(value(part) for part in parts[1:])
        elif parts[0] == "go":
            passed = [value(part) for part in parts[2:]]
            b, j = int(parts[1]), 0
            words.update(zip(blocks[b][0][1:], passed))
        else:
            x, y = value(parts[3]), value(parts[4])
            results = {"add": x + y, "sub": x - y, "mul": x * y, "less": int(x < y), "equal": int(x == y)}
            words[parts[0]] = results[parts[2]] & 0xFFFF
    return tuple(told), given, len(seen), seen
