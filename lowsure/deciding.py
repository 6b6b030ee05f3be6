"""Points that decide about functions.

Where two functions of a loss differ, so do two whose difference is 0 or 2 ** (bits - 1) everywhere: multiply all values
by a power of two, until only the first differing bit is left. On each class such a difference is 2 ** (bits - 1) times
the sum of the binomials of the variables over some vectors. So it is a set of vectors, and all that a point shows of it
is whether the number of those whose binomial is odd there is even.

Sets of vectors are integers here: the bit with index n stands for the n-th vector.
"""

from lowsure.errors import TooMany
from lowsure.lists import count_points, vector_list
from lowsure.tables import Table

MOST_POINTS = 400


def decides(points, loss, bits):
    """Whether functions of a loss that agree to some bits at the points do so everywhere."""
    return seen_at(points, loss, bits).undecided() is None


def unseen(points, loss, bits):
    """A table that is 0 at all of the points, but not everywhere; None if the points decide."""
    seen = seen_at(points, loss, bits)
    number = seen.undecided()
    return None if number is None else seen.hidden_in(number)


def first_enough(points, loss, bits):
    """The indexes of those points that show more than the ones before them; None if the points do not decide."""
    seen = seen_at(points, loss, bits)
    return tuple(seen.kept) if seen.undecided() is None else None


def seen_at(points, loss, bits):
    """What the points show."""
    seen = Seen(loss, bits)
    for at, point in enumerate(points):
        seen.look(at, point)
    return seen


def parity(members):
    """1 if the number of vectors in a set is odd, else 0."""
    digits = f"{members:b}"
    return digits.count("1") & 1


def highest(members):
    """The index of the last vector in a set."""
    return members.bit_length() - 1


class Seen:
    """What some points show of the differences that there may be; `kept` are the indexes of those that show more."""

    def __init__(self, loss, bits):
        count = count_points(loss, bits)
        if count > MOST_POINTS:
            raise TooMany(count)
        self.loss = loss
        self.bits = bits
        self.places = vector_list(len(loss), bits)
        self.holding = [self.sets_by_number(at) for at in range(len(loss))]
        # For each class the sets of which the difference has an even number of vectors, by the last one of each set.
        self.equations = [{} for _ in range(1 << sum(loss))]
        self.kept = []

    def sets_by_number(self, at):
        """For each number, the set of the vectors that have it at an index."""
        found = {}
        for index, place in enumerate(self.places):
            found[place[at]] = found.get(place[at], 0) + (1 << index)
        return found

    def odd_at(self, place):
        """The set of the vectors whose binomials are odd, where the variables are these."""
        found = (1 << len(self.places)) - 1
        for sets, z in zip(self.holding, place):
            found = found & sum([members for number, members in sets.items() if number & ~z == 0])
        return found

    def look(self, at, point):
        """Takes in what the point with an index shows."""
        number = 0
        place = []
        for depth, x in zip(self.loss, point):
            number = (number << depth) + (x & ((1 << depth) - 1))
            place.append(x >> depth)
        equations = self.equations[number]
        left = self.odd_at(place)
        while left != 0 and highest(left) in equations:
            left = left ^ equations[highest(left)]
        if left != 0:
            equations[highest(left)] = left
            self.kept.append(at)

    def undecided(self):
        """The number of the first class on which there may be a difference, or None."""
        for number, equations in enumerate(self.equations):
            if len(equations) < len(self.places):
                return number
        return None

    def hidden_in(self, number):
        """The table of a difference on the class with this number, where there may be one."""
        equations = self.equations[number]
        free = min([at for at in range(len(self.places)) if at not in equations])
        difference = 1 << free
        # Each set tells whether its last vector belongs to the difference, once it is known which others do.
        for last in sorted(equations):
            if parity(equations[last] & difference) == 1:
                difference = difference + (1 << last)
        shown = [parity(self.odd_at(place) & difference) << (self.bits - 1) for place in self.places]
        entries = [0 for _ in shown] * number + shown
        return Table(self.loss, self.bits, entries + [0 for _ in shown] * (len(self.equations) - number - 1))
