"""The lists of points that decide about functions."""

from lowsure.errors import TooMany

MOST_POINTS = 5000


def twos(n):
    """The number of times that 2 divides n!."""
    found = 0
    left = n >> 1
    while left > 0:
        found = found + left
        left = left >> 1
    return found


def vectors(count, bits):
    """Iterates over the tuples of `count` integers from 0 whose factorials have fewer than `bits` twos in all."""
    fewer = count - 1
    first = 0
    left = bits
    while left > 0:
        if fewer == 0:
            yield (first,)
        else:
            for others in vectors(fewer, left):
                yield (first, *others)
        first = first + 1
        left = bits - twos(first)


def shares(bits):
    """A list of `twos(j)` for each j from 0 for which it is less than `bits`."""
    found = []
    while twos(len(found)) < bits:
        found.append(twos(len(found)))
    return found


def vector_list(count, bits):
    """The tuples that `vectors` iterates over, as a list: what operators run may not iterate over a generator."""
    if count == 0:
        return [()]
    found = []
    for first, used in enumerate(shares(bits)):
        for others in vector_list(count - 1, bits - used):
            found.append((first, *others))
    return found


def count_vectors(count, bits):
    """The number of the tuples that `vectors` iterates over."""
    single = shares(bits)
    # ways[n] is the number of tuples of the length reached so far that have n twos in all.
    ways = [1 if used == 0 else 0 for used in range(bits)]
    for _ in range(count):
        longer = [0 for _ in range(bits)]
        for share in single:
            for used in range(bits - share):
                longer[used + share] = longer[used + share] + ways[used]
        ways = longer
    return sum(ways)


def residues(loss, number):
    """The residues of the class with this number, of all classes of a loss in ascending order."""
    found = []
    left = number
    for depth in reversed(loss):
        found.append(left & ((1 << depth) - 1))
        left = left >> depth
    return found[::-1]


def points(loss, bits):
    """Iterates over the list of a loss, one point after the other."""
    inputs = len(loss)
    for number in range(1 << sum(loss)):
        first = residues(loss, number)
        for vector in vectors(inputs, bits):
            yield tuple([first[at] + (vector[at] << loss[at]) for at in range(inputs)])


def point_list(loss, bits):
    """The list of a loss, as a list: for those that are short."""
    inputs = len(loss)
    firsts = [residues(loss, number) for number in range(1 << sum(loss))]
    places = vector_list(inputs, bits)
    return [tuple([first[at] + (place[at] << loss[at]) for at in range(inputs)])
            for first in firsts for place in places]


def count_points(loss, bits):
    """The number of points of the list of a loss."""
    return count_vectors(len(loss), bits) << sum(loss)


def greater_loss(one, other):
    """The greater one of two losses, input by input."""
    return tuple([max(first, second) for first, second in zip(one, other)])


def check_short(loss, bits):
    """Raises TooMany if the list of a loss is too long to be gone through."""
    count = count_points(loss, bits)
    if count > MOST_POINTS:
        raise TooMany(count)
