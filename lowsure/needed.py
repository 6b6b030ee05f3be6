"""How far each input matters for the low bits of a result, and how many of these are sure."""

from lowsure.arithmetic import same_bits
from lowsure.errors import Mismatch
from lowsure.lists import check_short, points
from lowsure.reach import moved_by, reach, shifted, values_of


def check_doer(doer, bits):
    """Raises Mismatch if a doer has fewer bits, and TooMany if its list is too long."""
    if bits > doer.most:
        raise Mismatch()
    check_short(doer.loss, bits)


def needed(doer, bits):
    """For each input the number of its low bits that the low bits of the result depend on."""
    check_doer(doer, bits)
    values = values_of(doer, bits)
    return tuple([reach(doer, bits, at, values) for at in range(doer.inputs)])


def needed_pair(doer, bits, at):
    """Two points that differ in the highest bit of an input that matters, and show that it does; or None."""
    check_doer(doer, bits)
    values = values_of(doer, bits)
    number = reach(doer, bits, at, values)
    if number == 0:
        return None
    top = 1 << (number - 1)
    point = moved_by(doer, bits, at, top, values)
    # Higher bits do not matter: without them, the shift is the change of a single bit, whichever way it goes.
    one = tuple([x & (2 * top - 1) if index == at else x for index, x in enumerate(point)])
    return (one, tuple([x ^ top if index == at else x for index, x in enumerate(one)]))


def least_sure(doer, widths, bits):
    """The number of sure bits, at most `bits`, and two points that show that there are not more, or None."""
    if bits > doer.most or len(widths) != doer.inputs:
        raise Mismatch()
    check_short(doer.loss, bits)
    least = bits
    pair = None
    # The list for more bits holds that for fewer bits, so it tells for all numbers of bits at once.
    for point in points(doer.loss, bits):
        value = doer(point, bits)
        for at, width in enumerate(widths):
            other = shifted(point, at, 1 << width)
            same = same_bits(value, doer(other, bits), least)
            if same < least:
                least = same
                pair = (point, other)
    return (least, pair)


def sure(doer, widths, bits=None):
    """How many low bits of the result are known if so many low bits of each input are."""
    return least_sure(doer, widths, doer.most if bits is None else bits)[0]


def sure_pair(doer, widths, bits=None):
    """Two points that agree to the widths, and whose results agree to the sure bits only; None if all are sure."""
    return least_sure(doer, widths, doer.most if bits is None else bits)[1]
