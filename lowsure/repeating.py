"""Steps of states that are repeated often.

A step is a function of the list of the states, as module `compiling` makes them, and gives the next value of one of
them. Why few rounds tell of many: the lowest bits of the states soon go in a circle, and there a stride of some rounds
maps what is left of the states without these bits, z, to z + 2 * g(z), with a polynomial g. So the j-th differences of
the states, one stride after the other, are divisible by 2 ** (j + 1), and as many states as there are bits tell all
that follow. States that never come again, where the steps are not one-to-one, are left behind soon.
"""

from lowsure.lists import count_vectors, vector_list
from lowsure.polynomials import Shape, differences, evaluated, state_rows

# So few rounds are done one by one without further ado.
FEW = 64
# After so many rounds for each bit, one state or two have left the states to which they never return.
EARLY = (2, 8)
# No stride is longer, for one state and for two.
LONGEST = (4, 16)
# After so many rounds the two lowest bits have left those to which they never return.
SOON = 8


def extended(samples, at, mask):
    """The item with this index of a sequence that begins with the samples and has no differences beyond theirs."""
    total = 0
    factor = 1
    for index, difference in enumerate(differences(samples, mask)):
        total = (total + factor * difference) & mask
        factor = factor * (at - index) // (index + 1)
    return total


def around(low):
    """The states with these lowest bits, and those that differ from them by 2 in one state."""
    found = [list(low)]
    for at in range(len(low)):
        other = list(low)
        other[at] = other[at] + 2
        found.append(other)
    return found


def quarters(places):
    """The two lowest bits of all states of some places."""
    return [state & 3 for place in places for state in place]


class Rounds:
    """The rounds of a `Repeat`, whose steps are ready to be computed to some bits."""

    def __init__(self, steps, times, bits):
        self.steps = steps
        self.times = times
        self.bits = bits
        self.mask = (1 << bits) - 1
        self.early = EARLY[len(steps) - 1] * bits
        self.terms = max(1, bits - 1)
        self.few = self.early + LONGEST[len(steps) - 1] * self.terms
        self.strides = {}
        self.ends = {}
        self.enough = None
        self.formulas = None

    def after(self, starts):
        """The states at the end."""
        if self.times <= FEW:
            return self.walked(starts, self.times)
        low = tuple([start & self.mask for start in starts])
        if low in self.ends:
            return self.ends[low]
        if self.formulas is not None:
            return [evaluated(rows, low, self.mask) for rows in self.formulas]
        states = self.reached(low)
        self.keep(low, states)
        return states

    def keep(self, low, states):
        """Keeps the end of a start; when there are many, makes the polynomials that give the end of every start."""
        if self.enough is None:
            self.enough = count_vectors(len(low), self.bits)
        if len(self.ends) < self.enough:
            self.ends[low] = states
        elif self.enough <= self.times:
            shape = Shape(len(self.steps), self.bits)
            self.formulas = state_rows(shape, [self.reached(place) for place in vector_list(len(low), self.bits)])

    def walked(self, states, count):
        """The states after some rounds, done one by one."""
        steps = self.steps
        now = states
        for _ in range(count):
            now = [step(now) for step in steps]
        return now

    def reached(self, states):
        """The states at the end, from as few rounds as are enough."""
        if self.times <= self.few:
            return self.walked(states, self.times)
        now = self.walked(states, self.early)
        left = self.times - self.early
        stride = self.stride(tuple([state & 1 for state in now]))
        samples = [self.walked(now, left % stride)]
        while len(samples) < self.terms:
            samples.append(self.walked(samples[-1], stride))
        return [extended([sample[at] for sample in samples], left // stride, self.mask) for at in range(len(now))]

    def stride(self, low):
        """The number of rounds that brings the two lowest bits back, for all states with these lowest bits."""
        if low not in self.strides:
            first = [self.walked(place, SOON) for place in around(low)]
            now = [self.walked(place, 1) for place in first]
            count = 1
            while quarters(now) != quarters(first):
                now = [self.walked(place, 1) for place in now]
                count += 1
            self.strides[low] = count
        return self.strides[low]
