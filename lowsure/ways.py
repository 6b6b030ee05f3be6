"""How deep code looks into its inputs, on any way through its skips.

Here each register and slot has depths, a tuple. They are those of all inputs, or a single one, whatever is held.
"""

from lowsure.machine import read_places, written_place
from lowsure.runs import check_registers

# The depth of an input that is not held.
NOWHERE = -1


def greatest(depths, empty):
    """The greatest of some depths, one by one."""
    return tuple([max(column) for column in zip(empty, *depths)])


def deeper(depths, more):
    """The depths of what is halved or tested: those that are held are greater by a number."""
    return tuple([depth + more if depth >= 0 else depth for depth in depths])


def met(one, other, empty):
    """What registers and slots have where two ways meet."""
    found = dict(one)
    for place, depths in other.items():
        before = found.get(place, empty)
        if before != depths:
            found[place] = greatest([before, depths], empty)
    return found


def deepest(code, starts, empty):
    """The greatest depths that register 0 has at the end, or a skip tests; the first registers begin with `starts`."""
    held = {at: depths for at, depths in enumerate(starts)}
    tested = empty
    # What is held on the ways that skip to a row. One for each row is enough, since only the greatest depths matter.
    skipped = {}
    for at, row in enumerate(code.rows):
        if at in skipped:
            held = met(held, skipped.pop(at), empty)
        depths = greatest([held.get(place, empty) for place in read_places(row)], empty)
        if row[0] == "skip":
            tested = greatest([tested, deeper(depths, row[2].bit_length() - 1)], empty)
            to = at + 1 + row[4]
            skipped[to] = met(held, skipped.get(to, {}), empty)
        else:
            held[written_place(row)] = deeper(depths, 1) if row[0] == "right" else depths
    end = met(held, skipped.get(len(code.rows), {}), empty)
    return greatest([tested, end.get(0, empty)], empty)


def code_loss(machine, code, inputs):
    """The greatest depths at which code looks at each input."""
    check_registers(machine, code)
    starts = [tuple([0 if other == at else NOWHERE for other in range(inputs)]) for at in range(inputs)]
    empty = tuple([NOWHERE for _ in range(inputs)])
    return tuple([max(0, depth) for depth in deepest(code, starts, empty)])


def code_depth(machine, code):
    """The greatest depth at which code looks at anything."""
    check_registers(machine, code)
    return deepest(code, [], (0,))[0]
