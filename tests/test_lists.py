"""Promise 21: `twos`, `vectors`, `count_vectors`, `points`, `count_points`."""

import itertools
import time
import unittest

from lowsure.lists import count_points, count_vectors, point_list, points, twos, vector_list, vectors
from tests import plain


class TwosTest(unittest.TestCase):

    def test_small(self):
        for n in range(200):
            self.assertEqual(twos(n), plain.twos(n))

    def test_large(self):
        self.assertEqual(twos(2 ** 100), 2 ** 100 - 1)
        self.assertEqual(twos(2 ** 100 - 1), 2 ** 100 - 101)
        self.assertEqual(twos(n=10 ** 18), 10 ** 18 - bin(10 ** 18).count("1"))
        self.assertEqual(twos(10 ** 5000), 10 ** 5000 - bin(10 ** 5000).count("1"))


class VectorsTest(unittest.TestCase):

    def test_all(self):
        for count in (1, 2, 3):
            for bits in (1, 2, 3, 4, 5, 8, 9, 12):
                self.assertEqual(list(vectors(count, bits)), plain.vectors(count, bits))
                self.assertEqual(count_vectors(count, bits), len(plain.vectors(count, bits)))

    def test_lists_of_them(self):
        for count in (1, 2, 3):
            for bits in (1, 2, 3, 5, 12):
                self.assertEqual(vector_list(count, bits), list(vectors(count, bits)))
        for loss in ((0,), (2,), [0, 3], (2, 1), (1, 0, 2)):
            for bits in (1, 2, 5):
                self.assertEqual(point_list(loss, bits), list(points(loss, bits)))

    def test_by_hand(self):
        self.assertEqual(list(vectors(1, 1)), [(0,), (1,)])
        self.assertEqual(list(vectors(2, 1)), [(0, 0), (0, 1), (1, 0), (1, 1)])
        self.assertEqual(list(vectors(2, 2)), [(0, 0), (0, 1), (0, 2), (0, 3), (1, 0), (1, 1), (1, 2), (1, 3),
                                               (2, 0), (2, 1), (3, 0), (3, 1)])

    def test_many_bits(self):
        self.assertEqual(list(vectors(count=1, bits=64)), [(j,) for j in range(66)])
        self.assertEqual([count_vectors(count=count, bits=64) for count in (1, 2, 3)], [66, 2452, 64008])
        self.assertEqual(len(list(vectors(2, 64))), 2452)

    def test_left_and_begun_again(self):
        left = iter(vectors(2, 3))
        self.assertEqual([next(left), next(left)], [(0, 0), (0, 1)])
        self.assertEqual(len(list(vectors(2, 3))), 16)
        self.assertEqual(len(list(left)), 14)


class PointsTest(unittest.TestCase):

    def test_all(self):
        for loss in ((0,), (1,), (3,), (0, 0), (1, 0), (0, 2), (2, 1), (0, 0, 0), (1, 0, 2)):
            for bits in (1, 2, 3, 5):
                self.assertEqual(list(points(loss, bits)), plain.points(loss, bits))
                self.assertEqual(list(points(list(loss), bits)), plain.points(loss, bits))
                self.assertEqual(count_points(loss, bits), len(plain.points(loss, bits)))
                self.assertEqual(count_points(list(loss), bits), count_points(loss, bits))

    def test_by_hand(self):
        self.assertEqual(list(points((1,), 2)), [(0,), (2,), (4,), (6,), (1,), (3,), (5,), (7,)])
        self.assertEqual(list(points((0, 1), 1)), [(0, 0), (0, 2), (1, 0), (1, 2), (0, 1), (0, 3), (1, 1), (1, 3)])

    def test_no_gaps_with_one_input(self):
        for loss in range(7):
            for bits in (1, 2, 7, 33, 64):
                self.assertEqual(sorted(points((loss,), bits)), [(n,) for n in range(count_points((loss,), bits))])

    def test_first_points_of_long_lists(self):
        begin = time.perf_counter()
        first = list(itertools.islice(points((16, 16, 16), 64), 4))
        self.assertEqual(first, [(0, 0, 0), (0, 0, 65536), (0, 0, 131072), (0, 0, 196608)])
        first = list(itertools.islice(points(loss=(16, 16, 16), bits=1), 7, 10))
        self.assertEqual(first, [(65536, 65536, 65536), (0, 0, 1), (0, 0, 65537)])
        self.assertEqual(next(iter(points([16], 64))), (0,))
        self.assertLess(time.perf_counter() - begin, 1)

    def test_counts_of_long_lists(self):
        self.assertEqual(count_points(loss=(16, 16, 16), bits=64), 64008 * 2 ** 48)
        self.assertEqual(count_points((16,), 1), 2 ** 17)

    def test_left_and_begun_again(self):
        left = iter(points((1,), 1))
        self.assertEqual([next(left), next(left)], [(0,), (2,)])
        self.assertEqual(list(points((1,), 1)), [(0,), (2,), (1,), (3,)])
        self.assertEqual(list(left), [(1,), (3,)])


if __name__ == "__main__":
    unittest.main()
