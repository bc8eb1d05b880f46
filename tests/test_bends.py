"""[D1] to [D6]: bends, their heights and corners, and what is made of them."""

import copy
import functools
import itertools
import random
import unittest
from fractions import Fraction
from math import floor, gcd

from brute import figures, longest
from ridgespans.bends import (apart, by_corners, corners, filled, height, higher_at, is_bend, is_under, often, over,
                              put_in, reaching, shared, slid, sum_of, taken_out)
from ridgespans.errors import BadCorners, TooSteep
from values import ANY_VALUES, NESTED

MOST = 10 ** 30
LONG = 10 ** 999 + 12345
K, H = (0, 1, None, -3), (0, None, 1)


def bend_of(dice, places, bound, nones=0.3):
    while True:
        bend = tuple(None if dice.random() < nones else dice.randint(-bound, bound) for _ in range(places))
        if any(number is not None for number in bend):
            return bend


def curved(dice, places):
    """A bend most of whose places reach some fraction."""
    low, numbers, step = dice.randint(0, 2), [dice.randint(-9, 9)], dice.randint(5, 40)
    while len(numbers) < places:
        numbers.append(numbers[-1] + step)
        step -= dice.randint(0, 3)
    return (None,) * low + tuple(numbers[:max(1, places - low)])


def some_bends(many, places=21):
    dice = random.Random(many)
    for at in range(many):
        size = dice.randint(1, places)
        if at % 2 == 0:
            yield bend_of(dice, size, dice.choice((2, 30, 10 ** 6)), dice.choice((0, 0.3, 0.7)))
        else:
            yield curved(dice, size)


SMALL = [bend for places in (1, 2, 3) for bend in itertools.product((None, -1, 0, 2), repeat=places)
         if any(number is not None for number in bend)]
MIXED = SMALL[::5] + list(some_bends(30))
STEEP = tuple(range(21))
SOME_FRACTIONS = [(top, bottom) for bottom in (1, 2, 3, 7) for top in range(-9 * bottom, 9 * bottom + 1, 2)
                  if gcd(top, bottom) == 1] + [(0, 1), (-41, 1), (50, 1), (10 ** 40, 10 ** 39 + 1), (-1, 10 ** 400)]


def height_at(bend, x):
    """By [D1]: the height at a number."""
    return max(number + place * x for place, number in enumerate(bend) if number is not None)


def lines_of(bend):
    return [(place, number) for place, number in enumerate(bend) if number is not None]


def reach(bend, x):
    """By [D1]: the places that reach a number."""
    return [place for place, number in lines_of(bend) if number + place * x == height_at(bend, x)]


@functools.cache
def breaks(bend):
    """By [D1]: all numbers that two places or more reach."""
    found = {Fraction(a - b, j - i) for (i, a), (j, b) in itertools.combinations(lines_of(bend), 2)}
    return sorted(x for x in found if len(reach(bend, x)) > 1)


def points_of(*bends):
    """Numbers such that bends that are level, or one under the other, there are so everywhere."""
    found = sorted({x for bend in bends for x in breaks(bend)})
    far = 2 * max(abs(number) for bend in bends for _, number in lines_of(bend)) + 2
    return [Fraction(-far), *found, *((a + b) / 2 for a, b in zip(found, found[1:])), Fraction(far)]


def pair_of(x):
    return (x.numerator, x.denominator)


@functools.cache
def fill(bend):
    """By [D3]: place by place the greatest integer that is nowhere above the heights."""
    places = [place for place, _ in lines_of(bend)]
    points = breaks(bend)
    found = [None] * places[0]
    for place in range(places[0], places[-1] + 1):
        found.append(floor(min((height_at(bend, x) - place * x for x in points), default=bend[place])))
    return tuple(found)


class Forms(unittest.TestCase):
    def test_bends(self):
        for bend in [(0,), (None, 0), (0, None), (MOST,), (-MOST,), (None,) * 20 + (1,), (0,) * 21, *SMALL]:
            self.assertIs(is_bend(bend), True)

    def test_nearly_bends(self):
        for value in [(), (None,), (None, None), (None,) * 21, (0,) * 22, (None,) * 21 + (0,), [0], [0, 1], (True,),
                      (0, False), (0, "0"), (0, 1.0), (0, (1,)), (0, [1]), ((0,),), {0: 0}, (MOST + 1,), (0, -MOST - 1),
                      (LONG,), "0", (0, NESTED), None, 0, True]:
            with self.subTest(value=value):
                self.assertIs(is_bend(value), False)

    def test_any_value(self):
        for value in ANY_VALUES:
            ahead = copy.deepcopy(value)
            awaited = repr(value) == "(1,)"
            self.assertIs(is_bend(value), awaited)
            self.assertIs(is_bend(value=value), awaited)
            self.assertEqual(value, ahead)


class Heights(unittest.TestCase):
    def test_heights_and_what_reaches(self):
        for bend in MIXED:
            for at in SOME_FRACTIONS:
                x = Fraction(*at)
                with self.subTest(bend=bend, at=at):
                    self.assertEqual(height(bend, at), pair_of(height_at(bend, x)))
                    self.assertEqual(reaching(bend, at), tuple(reach(bend, x)))

    def test_at_all_corners(self):
        for bend in MIXED:
            for x in breaks(bend):
                self.assertEqual(height(bend, pair_of(x)), pair_of(height_at(bend, x)))
                self.assertEqual(reaching(bend, pair_of(x)), tuple(reach(bend, x)))

    def test_forms(self):
        self.assertEqual(height((0, 2), (-1, 2)), (3, 2))
        self.assertEqual(height((None, 1), (-1, 1)), (0, 1))
        self.assertEqual(height((None, 0, 0), (1, 2)), (1, 1))
        self.assertEqual(height((None, None, 0), (-3, 4)), (-3, 2))
        self.assertEqual(height((5,), (-10 ** 400, 7)), (5, 1))
        self.assertEqual(reaching((5,), (-10 ** 400, 7)), (0,))
        self.assertEqual(reaching((0, 0, 0, -1), (0, 1)), (0, 1, 2))
        self.assertIs(type(reaching(K, (0, 1))), tuple)

    def test_integers_of_1000_digits(self):
        bend, at = (LONG, -LONG, None, LONG), (LONG, LONG + 1)
        self.assertEqual(height(bend, at), pair_of(height_at(bend, Fraction(*at))))
        self.assertLessEqual(longest(height(bend, at)), 2030)
        self.assertEqual(reaching((LONG, 0), (LONG, 1)), (0, 1))
        self.assertEqual(reaching((LONG, 0), (LONG + 1, 1)), (1,))

    def test_by_name(self):
        self.assertEqual(height(at=(1, 2), bend=K), (3, 2))
        self.assertEqual(reaching(at=(2, 1), bend=K), (1, 3))


class Filled(unittest.TestCase):
    def test_filled(self):
        for bend in SMALL + MIXED:
            full = filled(bend)
            with self.subTest(bend=bend):
                self.assertEqual(full, fill(bend))
                self.assertIs(type(full), tuple)
                self.assertIsNotNone(full[-1])
                self.assertEqual(filled(full), full)
                for x in points_of(bend):
                    self.assertEqual(height_at(full, x), height_at(bend, x))

    def test_none_can_be_greater(self):
        for bend in SMALL:
            full = filled(bend) + (None,)
            for at, number in enumerate(full):
                for more in ([number + 1] if number is not None else [-99, 0]):
                    higher = full[:at] + (more,) + full[at + 1:]
                    self.assertTrue(any(height_at(higher, x) != height_at(bend, x)
                                        for x in points_of(higher, bend)), (bend, higher))

    def test_level_bends_have_the_same_one(self):
        for one, other in itertools.product(SMALL, repeat=2):
            level = all(height_at(one, x) == height_at(other, x) for x in points_of(one, other))
            self.assertIs(filled(one) == filled(other), level, (one, other))
            self.assertIs(apart(one, other) is None, level)

    def test_what_nothing_reaches_makes_no_difference(self):
        dice = random.Random(8)
        for bend in MIXED:
            reached = [reach(bend, x) for x in points_of(bend)]
            edges = {places[0] for places in reached} | {places[-1] for places in reached}
            lower = tuple(number if place in edges else dice.choice((None, number and number - 1, None))
                          for place, number in enumerate(bend)) + (None,) * dice.randint(0, 2)
            self.assertEqual(filled(lower), filled(bend), (bend, lower))

    def test_none_ahead_between_and_behind(self):
        self.assertEqual(filled((None, None, 3, None, None)), (None, None, 3))
        self.assertEqual(filled((None, 0, None, None, 1, None)), (None, 0, 0, 0, 1))
        self.assertEqual(filled((None, 1, None, None, 0)), (None, 1, 0, 0, 0))
        self.assertEqual(filled((0, -9, -9, 0)), (0, 0, 0, 0))
        self.assertEqual(filled((0, None, -5)), (0, -3, -5))
        self.assertEqual(filled((-5,)), (-5,))
        self.assertEqual(filled((0,) + (None,) * 19 + (39,)), tuple(39 * place // 20 for place in range(21)))

    def test_integers_of_1000_digits(self):
        self.assertEqual(filled((LONG, None, -LONG, None)), (LONG, 0, -LONG))
        self.assertEqual(filled((LONG, None, 0)), (LONG, LONG // 2, 0))
        self.assertEqual(filled((0, None, None, -LONG)), (0, -LONG // 3, -2 * LONG // 3, -LONG))

    def test_by_name(self):
        self.assertEqual(filled(bend=K), (0, 1, -1, -3))


class Corners(unittest.TestCase):
    def test_corners(self):
        for bend in SMALL + MIXED:
            awaited = [(pair_of(x), reach(bend, x)[-1] - reach(bend, x)[0]) for x in breaks(bend)]
            self.assertEqual(corners(bend), tuple(awaited), bend)
            self.assertEqual(corners(filled(bend)), corners(bend))

    def test_known_ones(self):
        self.assertEqual(corners((5,)), ())
        self.assertEqual(corners((None, None, -3, None)), ())
        self.assertEqual(corners((0, 0, 0, 0)), (((0, 1), 3),))
        self.assertEqual(corners((0, -1, -4, -9)), (((1, 1), 1), ((3, 1), 1), ((5, 1), 1)))
        self.assertEqual(corners((LONG, None, 0)), ((pair_of(Fraction(LONG, 2)), 2),))
        self.assertEqual(corners(bend=K), (((-1, 1), 1), ((2, 1), 2)))

    def test_undone_by_one_another(self):
        for bend in SMALL + MIXED:
            full = filled(bend)
            low = next(place for place, number in enumerate(full) if number is not None)
            self.assertEqual(by_corners(low, full[low], corners(bend)), full)

    def test_by_corners_of_random_ones(self):
        dice = random.Random(5)
        for _ in range(100):
            xs = sorted({Fraction(dice.randint(-30, 30), dice.randint(1, 4)) for _ in range(dice.randint(0, 5))})
            pairs = tuple((pair_of(x), x.denominator * dice.randint(1, 2)) for x in xs)
            low, top = dice.randint(0, 6), dice.randint(-50, 50)
            if low + sum(width for _, width in pairs) > 20:
                with self.assertRaises(TooSteep):
                    by_corners(low, top, pairs)
            else:
                bend = by_corners(low, top, pairs)
                self.assertEqual(corners(bend), pairs)
                self.assertEqual((bend[:low], bend[low]), ((None,) * low, top))
                self.assertEqual(fill(bend), bend)

    def test_at_the_bound_and_above_it(self):
        self.assertEqual(by_corners(20, -7, ()), (None,) * 20 + (-7,))
        self.assertEqual(by_corners(0, 4, (((0, 1), 20),)), (4,) * 21)
        self.assertEqual(by_corners(18, 4, (((-1, 2), 2),)), (None,) * 18 + (4, 4, 5))
        for low, pairs in ((21, ()), (10 ** 400, ()), (0, (((0, 1), 21),)), (1, (((0, 1), 20),)),
                           (0, (((0, 1), 10), ((1, 1), 11))), (0, (((0, 1), 10 ** 900),))):
            with self.assertRaises(TooSteep):
                by_corners(low, 0, pairs)

    def test_bad_corners(self):
        for index, pairs in ((0, (((1, 2), 1),)), (0, (((-1, 3), 2), ((1, 2), 1))), (1, (((-1, 3), 3), ((1, 2), 1))),
                             (2, (((-5, 1), 1), ((-1, 3), 3), ((7, 6), 3), ((9, 2), 1))), (0, (((1, LONG), 20),))):
            with self.assertRaises(BadCorners) as caught:
                by_corners(0, 0, pairs)
            self.assertEqual(caught.exception.index, index)

    def test_too_steep_ahead_of_bad_corners(self):
        for low, width in ((20, 1), (19, 3), (0, 21)):
            with self.assertRaises(TooSteep):
                by_corners(low, 0, (((1, 2), width),))
        with self.assertRaises(BadCorners):
            by_corners(19, 0, (((1, 2), 1),))

    def test_integers_of_1000_digits(self):
        bend = by_corners(1, LONG, (((-LONG, 2), 2), ((LONG, 1), 3)))
        self.assertEqual(bend, filled((None, LONG, None, 2 * LONG, None, None, -LONG)))
        self.assertEqual(corners(bend), (((-LONG, 2), 2), ((LONG, 1), 3)))
        self.assertEqual(LONG % 2, 1)

    def test_by_name(self):
        self.assertEqual(by_corners(pairs=(((2, 1), 1),), top=3, low=1), (None, 3, 1))


class Made(unittest.TestCase):
    """Each bend that is made is filled, and has the heights that the document tells."""

    def check(self, bend, wanted, points):
        self.assertEqual(fill(bend), bend)
        for x in points:
            self.assertEqual(height_at(bend, x), wanted(x))

    def pairs(self, places):
        bends = list(some_bends(24, places))
        yield from zip(bends, bends[1:])
        yield from itertools.product(SMALL[::7], repeat=2)

    def test_over(self):
        for one, other in self.pairs(21):
            self.check(over(one, other), lambda x: max(height_at(one, x), height_at(other, x)),
                       points_of(one, other, over(one, other)))
            self.assertEqual(over(other, one), over(one, other))

    def test_sum_of(self):
        for one, other in self.pairs(11):
            self.check(sum_of(one, other), lambda x: height_at(one, x) + height_at(other, x),
                       points_of(one) + points_of(other) + points_of(sum_of(one, other)))
            self.assertEqual(sum_of(other, one), sum_of(one, other))

    def test_corners_of_a_sum_are_those_of_both(self):
        for one, other in self.pairs(11):
            widths = {}
            for corner, width in corners(one) + corners(other):
                widths[corner] = widths.get(corner, 0) + width
            awaited = sorted(widths.items(), key=lambda pair: Fraction(*pair[0]))
            self.assertEqual(corners(sum_of(one, other)), tuple(awaited))

    def test_put_in(self):
        for one, other in self.pairs(5):
            made = put_in(one, other)
            points = points_of(other, made) + [Fraction(top, 6) for top in range(-40, 40)]
            self.check(made, lambda x: height_at(one, height_at(other, x)), points)

    def test_slid(self):
        for at, bend in enumerate(MIXED[::2]):
            for by in (0, -3, at):
                self.check(slid(bend, by), lambda x: height_at(bend, x + by), points_of(bend, slid(bend, by)))
            self.assertEqual(slid(slid(bend, 5), -5), filled(bend))

    def test_often(self):
        for bend in some_bends(40, 5):
            for times in range(1, 6):
                self.check(often(bend, times), lambda x: times * height_at(bend, x),
                           points_of(bend, often(bend, times)))
            self.assertEqual(often(bend, 2), sum_of(bend, bend))
            self.assertEqual(often(bend, 1), filled(bend))

    def test_known_ones(self):
        self.assertEqual(over((0,), (None, None, 4)), (0, 2, 4))
        self.assertEqual(over((5, None), (3,)), (5,))
        self.assertEqual(sum_of((None, 1), (None, None, 2)), (None, None, None, 3))
        self.assertEqual(put_in((None, None, 1), (None, 3)), (None, None, 7))
        self.assertEqual(put_in((4,), (0, 1)), (4,))
        self.assertEqual(put_in((0, 0, 0), (7,)), (14,))
        self.assertEqual(put_in((None, 0), K), filled(K))
        self.assertEqual(often((None, 1), 20), (None,) * 20 + (20,))
        self.assertEqual(slid((1, None, 1), -1), (1, 0, -1))

    def test_too_steep(self):
        ten = (None,) * 10 + (1, None)
        self.assertEqual(len(sum_of(ten, ten)), 21)
        self.assertEqual(len(put_in(ten, (0, 0, 0, None))), 21)
        self.assertEqual(len(often(ten, 2)), 21)
        self.assertEqual(put_in(STEEP, (5,)), (20 + 100,))
        self.assertEqual(put_in((5,), STEEP), (5,))
        self.assertEqual(sum_of(STEEP, (5, None)), filled(tuple(5 + number for number in STEEP)))
        self.assertEqual(often((2, None, None), 20), (40,))
        for call in (lambda: sum_of(ten, ten[:10] + (None, 0)), lambda: sum_of(STEEP, (None, 0)),
                     lambda: sum_of(STEEP, STEEP), lambda: put_in(ten, (None, None, None, 0)),
                     lambda: put_in((0, 0, 0), ten[:10] + (None, 0)), lambda: put_in(STEEP, STEEP),
                     lambda: often(ten, 3), lambda: often((0, 0, 0), 11), lambda: often(STEEP, 2)):
            with self.assertRaises(TooSteep):
                call()

    def test_integers_of_1000_digits(self):
        long = (LONG, None, -LONG, 0, LONG)
        self.assertEqual(over(long, (LONG + 1,)), filled((LONG + 1, None, -LONG, 0, LONG)))
        self.assertEqual(sum_of((LONG, -LONG), (0, LONG)), (LONG, 2 * LONG, 0))
        self.assertEqual(slid((0, None, LONG), LONG), (0, 3 * LONG // 2, 3 * LONG))
        self.assertEqual(often((LONG, LONG), 20), (20 * LONG,) * 21)
        self.assertEqual(put_in((LONG, LONG), (None, LONG)), (LONG, 2 * LONG))
        bend = (LONG,) + (None,) * 19 + (-LONG,)
        for told in (filled(bend), corners(bend), slid(bend, -LONG), often((0, -LONG), 20), sum_of(bend, (LONG,)),
                     apart(bend, (0,)), higher_at(bend, (LONG,)), taken_out(bend, (-LONG,)), shared(bend, bend)):
            self.assertLessEqual(longest(told), figures(LONG) + 30)

    def test_by_name(self):
        self.assertEqual(over(other_bend=(None, 2), one_bend=K), (0, 2, -1, -3))
        self.assertEqual(sum_of(other_bend=H, one_bend=(0, 1)), (0, 1, 1, 2))
        self.assertEqual(put_in(other_bend=(2, 0), one_bend=H), (5, 3, 1))
        self.assertEqual(slid(by=1, bend=K), (0, 2, 1, 0))
        self.assertEqual(often(times=2, bend=(0, 1)), (0, 1, 2))


class Compared(unittest.TestCase):
    def check(self, one, other):
        points = points_of(one, other)
        level = all(height_at(one, x) == height_at(other, x) for x in points)
        under = all(height_at(one, x) <= height_at(other, x) for x in points)
        self.assertEqual(apart(one, other) is None, level, (one, other))
        self.assertIs(is_under(one, other), under, (one, other))
        self.assertEqual(higher_at(one, other) is None, under)
        for told, tells in ((apart(one, other), lambda a, b: a != b), (higher_at(one, other), lambda a, b: a > b)):
            if told is not None:
                self.assertEqual(told, pair_of(Fraction(*told)))
                self.assertTrue(tells(height_at(one, Fraction(*told)), height_at(other, Fraction(*told))))

    def test_small_ones(self):
        for one, other in itertools.product(SMALL, repeat=2):
            self.check(one, other)

    def test_greater_ones(self):
        bends = list(some_bends(24))
        for one, other in zip(bends, bends[1:]):
            self.check(one, other)
            self.check(one, over(one, other))
            self.check(over(one, other), one)
            self.check(filled(one), one)

    def test_higher_far_away_alone(self):
        self.check((0, -10 ** 6), (0,))
        self.check((0, 0), (None, 10 ** 6))
        self.check((None, None, 0), (10 ** 5, 10 ** 5))
        self.check((None,) * 20 + (-LONG,), (LONG,) * 20)
        self.check((LONG, None), (None, LONG))
        self.assertIs(is_under((0,) * 20, (0,) * 21), True)
        self.assertIs(is_under((0,) * 21, (0,) * 20), False)

    def test_higher_at_a_corner_alone(self):
        self.check((0, 1, 0), (0, 0, 0))
        self.check((0, None, 0), (0, -1, 0))
        self.check((None, 1), (0, None, 1))
        self.check((0, None, None, 1), (0, 0, 0, 1))

    def test_by_name(self):
        for function in (apart, is_under, higher_at):
            for one, other in ((K, H), (H, K), (K, K)):
                self.assertEqual(function(other_bend=other, one_bend=one), function(one, other))


class TakenOut(unittest.TestCase):
    def test_it_is_undone_by_sum_of(self):
        bends = list(some_bends(60, 11))
        for one, other in [*zip(bends, bends[1:]), *itertools.product(SMALL[::4], repeat=2)]:
            whole = sum_of(one, other)
            self.assertEqual(taken_out(whole, other), filled(one))
            self.assertEqual(taken_out(whole, one), filled(other))
            self.assertEqual(taken_out(one, one), (0,))

    def test_just_if_there_is_one(self):
        candidates = {fill(bend) for bend in itertools.product((None, *range(-3, 4)), repeat=3)
                      if any(number is not None for number in bend)}
        for other in SMALL[::3]:
            found = {fill(sum_of(bend, other)): bend for bend in candidates}
            for one in SMALL:
                self.assertEqual(taken_out(one, other), found.get(fill(one)), (one, other))

    def test_known_ones(self):
        self.assertEqual(taken_out((None, 3, 3), (None, 1)), (2, 2))
        self.assertIsNone(taken_out((1, 3), (None, 1)))
        self.assertIsNone(taken_out((0, 0), (0, 0, 0)))
        self.assertEqual(taken_out((0, 0, 0, 0), (0, None, 0)), (0, 0))
        self.assertEqual(taken_out((LONG, None, -LONG), (LONG, 0)), (0, -LONG))
        self.assertIsNone(taken_out((0, 0, -1), (0, -1, -3)))
        self.assertEqual(taken_out(STEEP, STEEP), (0,))

    def test_shared(self):
        dice = random.Random(6)
        for _ in range(200):
            parts = [bend_of(dice, dice.randint(1, 6), 9) for _ in range(3)]
            one, other = sum_of(parts[0], parts[1]), sum_of(parts[2], parts[1])
            told = shared(one, other)
            self.assertEqual(fill(told), told)
            self.assertEqual([number for number in told if number is not None][0], 0)
            self.assertIsNotNone(taken_out(one, told))
            self.assertIsNotNone(taken_out(other, told))
            self.assertGreaterEqual(len(told), len(filled(parts[1])))
            self.assertEqual(shared(other, one), told)

    def test_shared_has_the_greatest_last_place(self):
        numbers = (None, *range(-4, 5))
        candidates = {filled((None,) * ahead + (0, *behind)) for ahead in (0, 1, 2) for many in range(3 - ahead)
                      for behind in itertools.product(numbers, repeat=many)}
        for one, other in itertools.product(SMALL[::3], repeat=2):
            fit = [bend for bend in candidates if taken_out(one, bend) and taken_out(other, bend)]
            longest_one = [bend for bend in fit if len(bend) == max(map(len, fit))]
            self.assertEqual([shared(one, other)], longest_one, (one, other))

    def test_known_shared_ones(self):
        self.assertEqual(shared((None, 4), (None, None, 5)), (None, 0))
        self.assertEqual(shared((1, 2), (3, 3)), (0,))
        self.assertEqual(shared((0, 0, 0), (7, 7)), (0, 0))
        self.assertEqual(shared((0, None, 1), (0, 2, 3, None, 2)), (0,))
        self.assertEqual(shared((0, None, 1), (0, None, 1, None, 2)), (0, 0, 1))
        self.assertEqual(shared(STEEP, STEEP), STEEP)

    def test_by_name(self):
        self.assertEqual(taken_out(other_bend=(0, 1), one_bend=(0, 1, 1, 2)), (0, 0, 1))
        self.assertEqual(shared(other_bend=(None, 5, 6), one_bend=(0, 1, 1, 2)), (0, 1))


if __name__ == "__main__":
    unittest.main()
