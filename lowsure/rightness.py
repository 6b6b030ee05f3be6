"""Whether code does what a doer says, for all inputs and all bits that its rights put in."""

from lowsure.arithmetic import same_bits
from lowsure.errors import InvalidCode, LowError, Mismatch, TooMany
from lowsure.lists import count_points, greater_loss, points
from lowsure.ways import code_depth, code_loss
from lowsure.working import results

MOST_LOSS = 6
MOST_STARTS = 2000
MOST_PRUNED = 20


def count_rights(code):
    """The number of `right` rows."""
    return len([row for row in code.rows if row[0] == "right"])


def single_fills(code):
    """No fill, and for each `right` row zeros and a single 1."""
    zeros = [0 for _ in range(count_rights(code))]
    return [(), *[(*zeros[:at], 1) for at in range(len(zeros))]]


def checked_loss(machine, code, inputs):
    """The loss of code; raises InvalidCode for what the machine cannot do, and for code that looks too deep."""
    depth = code_depth(machine, code)
    loss = code_loss(machine, code, inputs)
    if 2 * depth + 2 > machine.width or max(loss) > MOST_LOSS:
        raise InvalidCode("loss", -1)
    return loss


def check_bits(machine, doer, bits):
    """Raises Mismatch if the machine or the doer has fewer bits."""
    if bits > min(machine.width, doer.most):
        raise Mismatch()


def check_few(loss, bits, code):
    """Raises TooMany if the code would have to be run too often."""
    count = count_points(loss, bits) * (count_rights(code) + 1)
    if count > MOST_STARTS:
        raise TooMany(count)


def wrong_in(machine, code, doer, bits, places):
    """The first point and fills, of some points and all single fills, at which code is wrong, or None."""
    fills = single_fills(code)
    starts = [(point, fill) for point in places for fill in fills]
    right = [doer(point, bits) for point in places]
    mask = (1 << bits) - 1
    for at, number in enumerate(results(machine, code, starts)):
        if number & mask != right[at // len(fills)]:
            return starts[at]
    return None


def wrong_at(machine, code, doer, bits):
    """A point and fills at which code does not have the low bits of a doer, or None."""
    check_bits(machine, doer, bits)
    loss = greater_loss(doer.loss, checked_loss(machine, code, doer.inputs))
    check_few(loss, bits, code)
    places = list(points(loss, bits))
    begin = 0
    many = 1
    # More and more points at once: that is faster, but most wrong code is wrong at one of the first ones.
    while begin < len(places):
        found = wrong_in(machine, code, doer, bits, places[begin:begin + many])
        if found is not None:
            return found
        begin = begin + many
        many = 2 * many
    return None


def least_fixed(machine, code, inputs):
    """The number of bits that do not depend on fills, and a point and two fills that show it, or None."""
    loss = checked_loss(machine, code, inputs)
    check_few(loss, machine.width, code)
    fills = single_fills(code)
    least = machine.width
    shown = None
    for point in points(loss, machine.width):
        found = results(machine, code, [(point, fill) for fill in fills])
        for fill, number in zip(fills, found):
            same = same_bits(found[0], number, least)
            if same < least:
                least = same
                shown = (point, (), fill)
    return (least, shown)


def fixed_bits(machine, code, inputs):
    """The number of low bits of the result that depend on the inputs only."""
    return least_fixed(machine, code, inputs)[0]


def fixed_pair(machine, code, inputs):
    """A point, and two fills whose results there differ in the first bit that is not fixed; None if all bits are."""
    return least_fixed(machine, code, inputs)[1]


def is_right(machine, code, doer, bits):
    """Whether code is right, as far as that can be told."""
    try:
        return wrong_at(machine, code, doer, bits) is None
    except LowError:
        return False


def pruned(machine, code, doer, bits):
    """The code that is left when rows without which it is right are removed, from the last one on."""
    if wrong_at(machine, code, doer, bits) is not None or len(code) > MOST_PRUNED:
        raise Mismatch()
    left = code
    before = len(left) + 1
    while len(left) < before:
        before = len(left)
        for at in reversed(range(before)):
            shorter = left.without(at)
            if is_right(machine, shorter, doer, bits):
                left = shorter
    return left
