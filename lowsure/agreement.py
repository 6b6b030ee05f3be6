"""Whether, and where, two doers agree. A doer is a piece or a table."""

from lowsure.arithmetic import same_bits
from lowsure.errors import Mismatch, TooMany
from lowsure.lists import check_short, greater_loss, points
from lowsure.reach import reach, values_of
from lowsure.tables import Table

MOST_DEPTH = 10


def check_pair(one, other, bits):
    """Raises Mismatch if two doers cannot be compared to these bits, and TooMany if their list is too long."""
    if one.inputs != other.inputs or bits > min(one.most, other.most):
        raise Mismatch()
    check_short(greater_loss(one.loss, other.loss), bits)


def agree(one, other, bits=None):
    """The bits and None if two doers agree to them; otherwise the bits to which they do, and a point that shows it."""
    asked = min(one.most, other.most) if bits is None else bits
    check_pair(one, other, asked)
    loss = greater_loss(one.loss, other.loss)
    least = asked
    shown = None
    for point in points(loss, asked):
        same = same_bits(one(point, asked), other(point, asked), least)
        if same < least:
            least = same
            shown = point
    return (least, shown)


def where_agree(one, other, bits):
    """The classes of integers at which two doers agree, as pairs of depth and residue."""
    check_pair(one, other, bits)
    depth = max([reach(doer, bits, 0, values_of(doer, bits)) for doer in (one, other)])
    if depth > MOST_DEPTH:
        raise TooMany(1 << depth)
    same = [one((r,), bits) == other((r,), bits) for r in range(1 << depth)]
    return tuple(sorted(classes(same, 0, 0), key=lambda pair: pair[1]))


def classes(same, depth, residue):
    """A list of the largest classes in a class at which `same` holds throughout; it tells so for each residue."""
    here = same[residue::1 << depth]
    if all(here):
        return [(depth, residue)]
    if not any(here):
        return []
    deeper = depth + 1
    return [*classes(same, deeper, residue), *classes(same, deeper, residue + (1 << depth))]


def solutions(doer, value, bits):
    """The classes of integers at which the low bits of a doer are those of an integer."""
    if bits > doer.most:
        raise Mismatch()
    return where_agree(doer, Table.constant(value, 1, bits), bits)
