"""[D7]: bends that have wanted heights at some points."""

import itertools
import random
import unittest

from brute import longest
from ridgespans.errors import Unfit
from ridgespans.fitting import leanest, lot_of, told_by, untold
from ridgespans.rows import lot_error
from ridgespans.spans import highest_below, shifts_of

LONG = 10 ** 999 + 12345


def height_at(bend, point):
    return max(number + slope * point for slope, number in enumerate(bend) if number is not None)


def cases():
    """Points, what is wanted there, and the greatest slope: such as can be told, and others."""
    dice = random.Random(7)
    for _ in range(250):
        points = tuple(sorted(dice.sample(range(-6, 7), dice.randint(1, 4))))
        most = dice.choice((0, 1, 2, 3, 5, 8, 20))
        if dice.random() < 0.6:
            bend = [None if dice.random() < 0.4 else dice.randint(-20, 20) for _ in range(most)]
            wanted = tuple(height_at([*bend, dice.randint(-30, 10)], point) for point in points)
        else:
            wanted = tuple(dice.randint(-9, 9) for _ in points)
        yield points, wanted, most


class LotOf(unittest.TestCase):
    def test_lots(self):
        for points in ((5,), (0, 1), (-3, 0, 4), (-LONG, 0, 1, LONG)):
            for most in (0, 1, 2, 20):
                lot = lot_of(points, most)
                awaited = tuple(tuple(slope * point for point in points) for slope in range(most + 1))
                self.assertEqual(lot, (len(points), awaited))
        self.assertIsNone(lot_error(lot_of((-3, 0, 4, 7), 20)))
        self.assertEqual(lot_of(most=1, points=(2, 3)), (2, ((0, 0), (2, 3))))


class ToldBy(unittest.TestCase):
    def test_each_integer_is_the_greatest_that_can_be(self):
        for points, wanted, most in cases():
            bend = told_by(points, wanted, most)
            self.assertEqual((type(bend), len(bend)), (tuple, most + 1))
            for slope, number in enumerate(bend):
                self.assertTrue(all(number + slope * point <= high for point, high in zip(points, wanted)))
                self.assertFalse(all(number + 1 + slope * point <= high for point, high in zip(points, wanted)))

    def test_it_is_what_the_lot_tells(self):
        for points, wanted, most in cases():
            bend, lot = told_by(points, wanted, most), lot_of(points, most)
            self.assertEqual(bend, shifts_of(lot, wanted))
            self.assertEqual(highest_below(lot, wanted), tuple(height_at(bend, point) for point in points))

    def test_no_other_bend_below_is_higher_at_a_point(self):
        dice = random.Random(2)
        for points, wanted, most in cases():
            bend = told_by(points, wanted, most)
            other = [dice.choice((None, number - dice.randint(0, 3))) for number in bend[:-1]] + [bend[-1]]
            for point, high in zip(points, wanted):
                self.assertLessEqual(height_at(other, point), height_at(bend, point))
                self.assertLessEqual(height_at(bend, point), high)

    def test_integers_of_1000_digits(self):
        points, wanted = (-LONG, 0, LONG), (LONG, -LONG, 3 * LONG)
        bend = told_by(points, wanted, 20)
        self.assertEqual(bend[:3], (-LONG, -LONG, -LONG))
        self.assertEqual(bend[20], -17 * LONG)
        self.assertLessEqual(longest(bend), 1030)
        self.assertEqual(untold(points, wanted, 20), (0,))
        self.assertEqual(untold(points, wanted, 3), (0, 2))
        self.assertEqual(untold(points, (-LONG, -LONG, 3 * LONG), 4), ())
        self.assertEqual(untold(points, (0, LONG, 3 * LONG), 4), ())
        self.assertEqual(leanest(points, (0, LONG, 3 * LONG), 4), (0, None, LONG))


class Untold(unittest.TestCase):
    def test_the_points_at_which_told_by_is_lower(self):
        for points, wanted, most in cases():
            bend = told_by(points, wanted, most)
            awaited = [at for at, point in enumerate(points) if height_at(bend, point) < wanted[at]]
            self.assertEqual(untold(points, wanted, most), tuple(awaited))

    def test_there_is_none_just_if_some_bend_tells_it(self):
        for points in ((0,), (-1, 2), (0, 1, 2), (-1, 0, 1)):
            bends = [bend for bend in itertools.product((None, *range(-4, 5)), repeat=3) if bend != (None,) * 3]
            told = {tuple(height_at(bend, point) for point in points) for bend in bends}
            for wanted in itertools.product(range(-1, 3), repeat=len(points)):
                self.assertEqual(untold(points, wanted, 2) == (), wanted in told, (points, wanted))


class Leanest(unittest.TestCase):
    def check(self, points, wanted, most):
        told = leanest(points, wanted, most)
        bend = told_by(points, wanted, most)
        if untold(points, wanted, most):
            self.assertIsNone(told)
            return
        for many in range(1, most + 2):
            for slopes in itertools.combinations(range(most + 1), many):
                chosen = tuple(bend[slope] if slope in slopes else None for slope in range(slopes[-1] + 1))
                if all(height_at(chosen, point) == high for point, high in zip(points, wanted)):
                    self.assertEqual(told, chosen, (points, wanted, most))
                    return
        self.fail((points, wanted, most))

    def test_the_fewest_integers_and_the_first_slopes(self):
        for points, wanted, most in cases():
            self.check(points, wanted, most)

    def test_no_bend_of_fewer_integers_tells_it(self):
        bends = [bend for many in (1, 2, 3) for bend in itertools.product((None, *range(-5, 6)), repeat=many)
                 if bend[-1] is not None]
        for points in ((0,), (-1, 2), (0, 1, 2), (-1, 0, 1)):
            best = {}
            for bend in bends:
                wanted = tuple(height_at(bend, point) for point in points)
                slopes = tuple(slope for slope, number in enumerate(bend) if number is not None)
                best[wanted] = min(best.get(wanted, (9, ())), (len(slopes), slopes))
            for wanted in itertools.product(range(-1, 3), repeat=len(points)):
                told = leanest(points, wanted, 2)
                slopes = told and tuple(slope for slope, number in enumerate(told) if number is not None)
                self.assertEqual(slopes, best.get(wanted, (None, None))[1], (points, wanted))

    def test_known_ones(self):
        self.assertEqual(leanest((3,), (7,), 20), (7,))
        self.assertEqual(leanest((0, 1), (0, 5), 20), (None,) * 5 + (0,))
        self.assertEqual(leanest((0, 1), (0, 5), 4), None)
        self.assertEqual(leanest((0, 1), (5, 0), 20), None)
        self.assertEqual(leanest((0, 2, 4), (0, 2, 8), 20), (0, None, None, -4))
        self.assertEqual(leanest((-9, 0, 9, 18), (0, 1, 20, 200), 20), (0, 1) + (None,) * 18 + (-160,))

    def test_four_points_that_need_four_slopes(self):
        for most in (6, 20):
            self.check((-3, -1, 1, 3), (-3, 0, 9, 21), most)
            self.check((0, 10, 20, 30), (0, 5, 55, 155), most)


class Calls(unittest.TestCase):
    def test_unfit_ahead_of_all(self):
        for points, wanted in (((0, 1), (0,)), ((0,), (0, 1)), ((0,), ()), ((0, 1, 2, 3), (0, 1, 2))):
            for function in (told_by, untold, leanest):
                for most in (0, 20):
                    with self.assertRaises(Unfit):
                        function(points, wanted, most)

    def test_by_name(self):
        for function in (told_by, untold, leanest):
            for wanted in ((0, 1), (3, 0)):
                self.assertEqual(function(most=2, wanted=wanted, points=(0, 2)), function((0, 2), wanted, 2))


if __name__ == "__main__":
    unittest.main()
