"""Steps of one state or two, that can be done often, and undone."""

from lowsure.compiling import Scope, ready
from lowsure.errors import InvalidNode, Mismatch, NotOneToOne
from lowsure.libraryrules import are_different_names, is_step
from lowsure.lists import vector_list
from lowsure.polynomials import Shape, evaluated, state_rows
from lowsure.tables import Table

MOST_STATES = 2
# After so many times for each bit, states have left those that never come again (see module `repeating`).
EARLY = 8


def all_states(states, bits):
    """A list of all states below 2 ** bits."""
    if states == 1:
        return [(one,) for one in range(1 << bits)]
    return [(one, other) for one in range(1 << bits) for other in range(1 << bits)]


def lowered(state, bits):
    """The low bits of a state."""
    return tuple([number & ((1 << bits) - 1) for number in state])


def behind(shape, later, earlier):
    """The values at the vectors of one step done behind another one, from the values of both there."""
    rows = state_rows(shape, later)
    return [tuple([evaluated(row, state, shape.mask) for row in rows]) for state in earlier]


def step_of(values, bits):
    """The step with these values at the vectors of the bits."""
    states = len(values[0])
    loss = [0 for _ in range(states)]
    return Step([Table(loss, bits, [value[at] for value in values]) for at in range(states)])


class Step:
    """Maps one state, or two, to states; their tables tell how."""

    def __init__(self, tables):
        self.tables = tuple(tables)
        self.states = len(self.tables)
        if not 1 <= self.states <= MOST_STATES:
            raise Mismatch()
        self.bits = self.tables[0].bits
        for table in self.tables:
            if table.inputs != self.states or sum(table.loss) != 0 or table.bits != self.bits:
                raise Mismatch()

    @classmethod
    def of(cls, names, nodes, bits):
        """The step that gives states with these names the values of the nodes."""
        if not 1 <= len(names) <= MOST_STATES or not are_different_names(names) or len(nodes) != len(names):
            raise InvalidNode()
        if not all([is_step(node, names) for node in nodes]):
            raise InvalidNode()
        scope = Scope(names, None)
        steps = [ready(node, bits, scope) for node in nodes]
        return step_of([[step(state) for step in steps] for state in vector_list(len(names), bits)], bits)

    def often(self, n):
        """The step done n times; for a negative n, the step that undoes as many."""
        wrong = self.collision()
        if wrong is not None and n < 0:
            raise NotOneToOne(wrong[0], wrong[1], wrong[2])
        early = 0 if wrong is None else EARLY * self.bits
        times = n if 0 <= n < early else early + (n - early) % self.round_trip()
        return step_of(self.values_after(times), self.bits)

    def rounds(self, state, count):
        """Iterates over the state and those that follow it."""
        now = lowered(state, self.bits)
        for _ in range(count):
            yield now
            now = self.follow(now)

    def collision(self):
        """Two states that come to the same one, behind the number of bits to which they show it; or None."""
        # A step that is one-to-one on two bits is so on any number of bits.
        for bits in range(1, min(2, self.bits) + 1):
            seen = {}
            for state in all_states(self.states, bits):
                low = lowered(self.follow(state), bits)
                if low in seen:
                    return (bits, seen[low], state)
                seen[low] = state
        return None

    def period(self):
        """The least number of times, from 1 on, that leaves all states as they are."""
        return self.period_of_twos(len(self.doubled()))

    def late(self):
        """For 2 and 3, if they divide the period, a state that is not back after this part of it."""
        found = []
        doubled = self.doubled()
        if doubled:
            # What is not back after an odd number of halves of the period is not back after one of them.
            found.append((2, self.moved(doubled[-1])))
        period = self.period_of_twos(len(doubled))
        if period % 3 == 0:
            found.append((3, self.moved(self.values_after(period // 3))))
        return tuple(found)

    def period_of_twos(self, twos):
        """The period, if 2 divides it so many times; what is left is 1, for two states 1, 3 or 9."""
        if self.states == 1 or self.is_still(self.values_after(1 << twos)):
            return 1 << twos
        return 3 << twos if self.is_still(self.values_after(3 << twos)) else 9 << twos

    def round_trip(self):
        """A number of times that leaves all states as they are that come again."""
        # If the step is one-to-one, a fourth of it is enough.
        return 4 << self.bits if self.states == 1 else 9 << (self.bits + 4)

    def follow(self, state):
        """The next state."""
        return tuple([table.worth(state) for table in self.tables])

    def values_after(self, times):
        """The values of the step, done some times, at the vectors."""
        shape = Shape(self.states, self.bits)
        values = vector_list(self.states, self.bits)
        for digit in f"{times:b}":
            values = behind(shape, values, values)
            if digit == "1":
                values = [self.follow(state) for state in values]
        return values

    def doubled(self):
        """The values of the step done once, for two states nine times, then twice as often, until nothing moves."""
        wrong = self.collision()
        if wrong is not None:
            raise NotOneToOne(wrong[0], wrong[1], wrong[2])
        shape = Shape(self.states, self.bits)
        found = []
        now = self.values_after(1 if self.states == 1 else 9)
        while not self.is_still(now):
            found.append(now)
            now = behind(shape, now, now)
        return found

    def is_still(self, values):
        """Whether a step with these values at the vectors leaves all states as they are."""
        return values == vector_list(self.states, self.bits)

    def moved(self, values):
        """A state that a step with these values at the vectors moves."""
        states = vector_list(self.states, self.bits)
        return [state for state, value in zip(states, values) if value != state][0]

    def __call__(self, state):
        return self.follow(state)

    def __mul__(self, other):
        if self.bits != other.bits or self.states != other.states:
            raise Mismatch()
        columns = [table.entries for table in other.tables]
        return step_of([self.follow(state) for state in zip(*columns)], self.bits)

    def __invert__(self):
        return self.often(-1)

    def __eq__(self, other):
        if not isinstance(other, Step) or self.bits != other.bits or self.states != other.states:
            return False
        return [table.entries for table in self.tables] == [table.entries for table in other.tables]
