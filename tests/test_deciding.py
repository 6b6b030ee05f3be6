"""Promises 30 and 31, and what 7 says of the number of points: `decides`, `unseen` and `first_enough`."""

import itertools
import random
import time
import unittest
from math import factorial

from lowsure.deciding import decides, first_enough, unseen
from lowsure.errors import NoTable, TooMany
from lowsure.lists import count_points, points
from lowsure.tables import Table, count_tables
from tests import plain

# Losses and bits with lists of up to 400 points.
QUESTIONS = [(loss, bits) for loss in ((0,), (1,), (2,), (3,), (5,), (0, 0), (1, 0), (0, 2), (1, 1), (2, 1), (3, 3))
             for bits in (1, 2, 3, 4, 6, 9, 14, 23, 47, 64) if count_points(loss, bits) <= 400]


def binomial(z, j):
    """The binomial of any integer z over j."""
    product = 1
    for at in range(j):
        product *= z - at
    return product // factorial(j)


def class_of(loss, point):
    return tuple([x % 2 ** depth for x, depth in zip(point, loss)])


def odd_vectors(loss, bits, point):
    """The vectors whose binomials are odd at a point, each with the class of the point."""
    place = [x // 2 ** depth for x, depth in zip(point, loss)]
    found = set()
    for vector in plain.vectors(len(loss), bits):
        product = 1
        for z, j in zip(place, vector):
            product *= binomial(z, j)
        if product % 2:
            found.add((class_of(loss, point), vector))
    return found


def differences_at(loss, bits, asked):
    """For each function with the values 0 and half of the modulus, but the one that is 0, at which points it is not 0."""
    classes = list(itertools.product(*[range(2 ** depth) for depth in loss]))
    pairs = [(residues, vector) for residues in classes for vector in plain.vectors(len(loss), bits)]
    odd = [odd_vectors(loss, bits, point) for point in asked]
    found = []
    for number in range(1, 2 ** len(pairs)):
        chosen = {pair for at, pair in enumerate(pairs) if number >> at & 1}
        found.append([len(chosen & each) % 2 for each in odd])
    return found


def drawn_points(source, loss, many):
    """Points of which some are near, some far, and some told twice."""
    found = []
    for _ in range(many):
        if found and source.random() < 0.2:
            found.append(source.choice(found))
        else:
            found.append(tuple([source.choice([source.randint(0, 5), source.randint(-9, 9),
                                               source.randint(-10 ** 30, 10 ** 30)]) for _ in loss]))
    return found


class Checks(unittest.TestCase):

    def check(self, asked, loss, bits, wanted=None):
        """Checks that the three answers fit each other, and what they show; returns whether the points decide."""
        answer = decides(asked, loss, bits)
        self.assertIsInstance(answer, bool)
        if wanted is not None:
            self.assertEqual(answer, wanted)
        table, kept = unseen(asked, loss, bits), first_enough(asked, loss, bits)
        count = count_points(loss, bits)
        if not answer:
            self.assertIsNone(kept)
            self.assertEqual((type(table), table.loss, table.bits), (Table, tuple(loss), bits))
            self.assertEqual([table(point) for point in asked], [0] * len(asked))
            self.assertTrue(any(table.entries))
            self.assertNotEqual(table, Table.constant(0, len(loss), bits))
            return False
        self.assertIsNone(table)
        self.assertIsInstance(kept, tuple)
        self.assertEqual((len(kept), list(kept)), (count, sorted(set(kept))))
        alone = [asked[at] for at in kept]
        self.assertTrue(decides(alone, loss, bits))
        self.assertEqual(first_enough(alone, loss, bits), tuple(range(count)))
        return True


class ListsTest(Checks):

    def test_the_list_itself(self):
        for loss, bits in QUESTIONS:
            asked = list(points(loss, bits))
            self.check(asked, loss, bits, True)
            self.check(tuple([list(point) for point in asked]), list(loss), bits, True)
            source = random.Random(bits)
            source.shuffle(asked)
            self.check(asked, loss, bits, True)
            self.assertEqual(first_enough(asked, loss, bits), tuple(range(len(asked))))

    def test_moved_lists(self):
        for loss, bits in QUESTIONS:
            source = random.Random(bits)
            asked = list(points(loss, bits))
            for way in ([7] * len(loss), [-10 ** 29] * len(loss), [source.randint(-10 ** 29, 10 ** 29) for _ in loss]):
                self.check([tuple([x + move for x, move in zip(point, way)]) for point in asked], loss, bits, True)
            # An odd number maps each class onto another one, and all polynomials to polynomials.
            for odd in (-1, 3, 2 ** 61 - 1, -10 ** 20 - 7):
                self.check([tuple([x * odd for x in point]) for point in asked], loss, bits, True)

    def test_points_left_out(self):
        """No fewer points than those of the list are ever enough."""
        for loss, bits in QUESTIONS:
            source = random.Random(bits)
            asked = list(points(loss, bits))
            at = source.randrange(len(asked))
            fewer = asked[:at] + asked[at + 1:]
            self.check(fewer, loss, bits, False)
            self.check(fewer + fewer[:5], loss, bits, False)
            self.check([], loss, bits, False)
            self.check((), loss, bits, False)
            self.check(asked[:1] * 3, loss, bits, len(asked) == 1)
            twice = [asked[0], *asked, asked[at], asked[-1]]
            self.check(twice, loss, bits, True)
            self.assertEqual(first_enough(twice, loss, bits), (0, *range(2, len(asked) + 1)))

    def test_one_line(self):
        # All points with equal coordinates, or with one that stays: never enough for two inputs.
        for bits in (1, 2, 5, 12):
            count = count_points((0, 0), bits)
            self.check([(x, x) for x in range(count)], (0, 0), bits, False)
            self.check([(x, 3) for x in range(400)], (0, 0), bits, False)
            self.check([(x, y) for x in range(-9, 10) for y in range(20)], (0, 0), bits, True)

    def test_even_numbers(self):
        for bits in (1, 2, 3, 8):
            self.check([(2 * x,) for x in range(100)], (0,), bits, False)
            self.check([(2 * x,) for x in range(50)] + [(2 * x + 1,) for x in range(50)], (0,), bits, True)
            self.check([(2 * x,) for x in range(200)], (1,), bits, False)
            self.check([(x,) for x in range(-200, 200)], (3,), bits, True)

    def test_examples(self):
        self.check([(0,), (1,), (2,), (3,)], (0,), 3, True)
        self.check([(0,), (4,), (1,), (2,)], (0,), 3, False)


class AllFunctionsTest(Checks):

    def test_compared_with_all_tables(self):
        """Points decide if no two tables have the same values at them."""
        for loss, bits in (((0,), 1), ((0,), 2), ((0,), 3), ((1,), 1), ((1,), 2), ((2,), 1), ((0, 0), 1)):
            known = [[]]
            for _ in range(count_points(loss, bits)):
                known = [[*values, value] for values in known for value in range(2 ** bits)
                         if plain.first_wrong_entry(loss, bits, [*values, value]) is None]
            tables = [Table(loss, bits, values) for values in known]
            self.assertEqual(len(tables), 2 ** count_tables(loss, bits))
            decided = 0
            for seed in range(12):
                source = random.Random(seed)
                many = source.choice([count_points(loss, bits), source.randint(0, 9), 30])
                asked = [tuple([source.randint(-8, 8) for _ in loss]) for _ in range(many)]
                wanted = len({tuple([table(point) for point in asked]) for table in tables}) == len(tables)
                self.check(asked, loss, bits, wanted)
                decided += wanted
            self.assertGreater(decided, 0)

    def test_compared_with_all_differences(self):
        answers = {True: 0, False: 0}
        for loss, bits in (((0,), 4), ((0,), 8), ((1,), 3), ((1,), 4), ((2,), 1), ((2,), 2), ((0, 0), 2), ((0, 0), 3),
                           ((1, 0), 1), ((0, 1), 1), ((1, 1), 1)):
            if count_points(loss, bits) > 12:
                continue
            for seed in range(12):
                source = random.Random(seed)
                asked = drawn_points(source, loss, source.choice([0, 3, count_points(loss, bits), 20, 30]))
                values = differences_at(loss, bits, asked)
                wanted = all([any(each) for each in values])
                answers[self.check(asked, loss, bits, wanted)] += 1
                if wanted:
                    kept = tuple([at for at in range(len(asked))
                                  if any([each[at] and not any(each[:at]) for each in values])])
                    self.assertEqual(first_enough(asked, loss, bits), kept)
        self.assertGreater(min(answers.values()), 10)

    def test_binomials(self):
        # The binomial of z over j is odd exactly if the digits of j are among those of z.
        for z in range(-40, 40):
            for j in range(20):
                self.assertEqual(binomial(z, j) % 2 == 1, j & ~z == 0)

    def test_drawn_points(self):
        answers = {True: 0, False: 0}
        for seed in range(150):
            source = random.Random(seed)
            loss, bits = source.choice(QUESTIONS)
            count = count_points(loss, bits)
            many = min(400, source.choice([count, 4 * count, 400]))
            answers[self.check(drawn_points(source, loss, many), loss, bits)] += 1
        self.assertGreater(min(answers.values()), 10)

    def test_unseen_has_a_twin(self):
        # A function and its sum with the table that is not seen agree at the points, but not everywhere.
        table = Table.of(Table((1,), 4, [0, 2, 4, 6, 8, 10, 5, 8, 13, 4, 13, 8][:count_points((1,), 4)]), 4)
        asked = [(x,) for x in (0, 1, 2, 3, 4, 5, 6, 7, 16, -16)]
        hidden = unseen(asked, (1,), 4)
        other = table + hidden
        self.assertEqual([other(point) for point in asked], [table(point) for point in asked])
        self.assertNotEqual(other, table)


class LimitsTest(Checks):

    def test_too_many(self):
        self.assertEqual(count_points((3,), 47), 400)
        for loss, bits in (((0,), 64), ((2,), 64), ((3,), 64), ((3,), 47), ((3,), 48), ((8,), 1), ((7,), 1),
                           ((0, 0), 23), ((0, 0), 24), ((4, 4), 1),
                           ((4, 3), 1), ((5, 5), 2), ((6,), 4), ((6,), 3), ((6,), 8), ((16, 16), 1), ((1, 0), 15),
                           ((1, 0), 16)):
            count = count_points(loss, bits)
            for call in (decides, unseen, first_enough):
                if count <= 400:
                    call([], loss, bits)
                    continue
                for asked in ([], [(5,) * len(loss)]):
                    with self.assertRaises(TooMany) as caught:
                        call(asked, loss, bits)
                    self.assertEqual(caught.exception.count, count)

    def test_just_above(self):
        found = {}
        for loss in itertools.product(range(5), repeat=2):
            for bits in range(1, 40):
                found.setdefault(count_points(loss, bits), (loss, bits))
        least, most = min([count for count in found if count > 400]), max([count for count in found if count <= 400])
        self.check(list(points(*found[most])), *found[most], True)
        with self.assertRaises(TooMany) as caught:
            decides(list(points(*found[least])), *found[least])
        self.assertEqual(caught.exception.count, least)

    def test_time(self):
        for loss, bits in (((0, 0), 23), ((1, 0), 15), ((2, 3), 2), ((2,), 64), ((0,), 64), ((4, 4), 1), ((7,), 2)):
            if count_points(loss, bits) > 400:
                continue
            source = random.Random(1)
            asked = [tuple([source.randint(-10 ** 30, 10 ** 30) for _ in loss]) for _ in range(400)]
            for call in (decides, unseen, first_enough):
                for each in (asked, list(points(loss, bits))):
                    begin = time.perf_counter()
                    call(each, loss, bits)
                    self.assertLess(time.perf_counter() - begin, 0.3)

    def test_arguments(self):
        asked = [[0], [1], [2], [3]]
        self.assertTrue(decides(bits=3, loss=(0,), points=asked))
        self.assertIsNone(unseen(bits=3, loss=[0], points=tuple(asked)))
        self.assertEqual(first_enough(bits=3, loss=(0,), points=asked), (0, 1, 2, 3))
        hidden = unseen(asked[:2], [0], 3)
        self.assertEqual(asked, [[0], [1], [2], [3]])
        asked.clear()
        self.assertEqual((hidden((0,)), hidden((1,)), hidden), (0, 0, unseen([(0,), (1,)], (0,), 3)))

    def test_tables_of_what_is_unseen(self):
        # They belong to the loss: the same values with one changed have none.
        hidden = unseen([], (0,), 3)
        self.assertTrue(any(hidden.entries))
        with self.assertRaises(NoTable):
            Table((0,), 3, [*hidden.entries[:2], hidden.entries[2] + 1, hidden.entries[3]])


if __name__ == "__main__":
    unittest.main()
