"""Steps of states that are repeated often.

A step is a function of the list of the states, as module `compiling` makes them, and gives the next value of one of
them.
"""

from lowsure.lists import vectors
from lowsure.polynomials import Shape, evaluated

# Up to so many rounds are done one by one, for one state and for two. Above, the rounds are made one polynomial; that
# is of use to many starts, and its length does not matter, but for two states it takes long if there are many bits.
MOST_SINGLE = (64, 1000)


def is_often(row):
    """Whether the rounds of a `Repeat` are too many to be done one by one."""
    return row.times > MOST_SINGLE[len(row.names) - 1]


def one_by_one(steps, times):
    """The function that gives the states after some rounds, done one by one."""

    def repeated(states):
        now = states
        for _ in range(times):
            now = [step(now) for step in steps]
        return now

    return repeated


def state_rows(shape, values):
    """The rows of coefficients for each of the states whose values at the vectors these are."""
    return [shape.coefficients(shape.spread([value[at] for value in values])) for at in range(len(values[0]))]


def at_once(steps, times, bits):
    """The function that gives the low bits of the states after some rounds, by polynomials for these rounds."""
    shape = Shape(len(steps), bits)
    mask = shape.mask
    # The values of the rounds so far, at each vector: twice as many rounds for each binary digit of the number.
    values = list(vectors(len(steps), bits))
    for digit in f"{times:b}":
        so_far = state_rows(shape, values)
        values = [[evaluated(rows, value, mask) for rows in so_far] for value in values]
        if digit == "1":
            values = [[step(value) for step in steps] for value in values]
    whole = state_rows(shape, values)

    def repeated(starts):
        low = [start & mask for start in starts]
        return [evaluated(polynomial, low, mask) for polynomial in whole]

    return repeated
