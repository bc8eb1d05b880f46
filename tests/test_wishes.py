"""[I1] to [I4]: wishes, the covers of those that are met, and how far off the others are."""

import copy
import itertools
import unittest

from brute import Dice, all_sides, longest, most, nowhere_higher, order, plus, shift
from ridgespans.errors import Unfit
from ridgespans.wishes import highest_to, is_cover, is_met, least_covers, least_to, missed, off
from values import ANY_VALUES, is_int, spoilt

LONG = 10 ** 999 + 12345
W, X = (3, ((0, 2, None), (1, 0, None), (None, 3, None))), (2, ((0, 0),))


def lead(table, side):
    return tuple(most(map(plus, line, side)) for line in table[1])


def wishes_of(table, seed):
    """Wishes that are met, missed by one at a line, none at some and at all lines, and others."""
    dice, lines = Dice(seed), len(table[1])
    met = lead(table, dice.side(table[0], 3))
    wishes = [met, (None,) * lines, dice.side(lines, 3, 0.1), dice.side(lines, 3, 0.5)]
    for line in range(lines):
        if met[line] is not None:
            wishes.extend(met[:line] + (number,) + met[line + 1:] for number in (met[line] + 1, met[line] - 1, None))
    return wishes


# Tables of one to four places with 0 to 6 lines, some of them with columns of none, beside wishes.
TABLES = [Dice(seed).table(places, lines, bound, nones)
          for seed, (places, lines, bound, nones) in enumerate(itertools.product(
              (1, 2, 3, 4), range(7), (0, 2), (0.1, 0.4, 0.7)))]
PAIRS = [(table, wish) for seed, table in enumerate(TABLES) for wish in wishes_of(table, seed)]
LOW = [(table, wish) for table, wish in PAIRS if table[0] < 3]


def column(table, place):
    return [line[place] for line in table[1]]


def highest(table, wish):
    """By [I2]: the greatest number, at each place, that a side can have there."""
    found = []
    for place in range(table[0]):
        numbers = [(number, limit) for number, limit in zip(column(table, place), wish) if number is not None]
        limits = [limit for _, limit in numbers]
        found.append(None if not numbers or None in limits else min(limit - number for number, limit in numbers))
    return tuple(found)


def covers(table, wish):
    """By [I3]: all covers, those of fewer places first."""
    top = highest(table, wish)
    found = []
    for many in range(table[0] + 1):
        for places in itertools.combinations(range(table[0]), many):
            if lead(table, tuple(number if place in places else None for place, number in enumerate(top))) == wish:
                found.append(places)
    return found


class Highest(unittest.TestCase):
    def test_highest_to(self):
        for table, wish in PAIRS:
            with self.subTest(table=table, wish=wish):
                told = highest_to(table, wish)
                self.assertEqual(told, highest(table, wish))
                self.assertTrue(nowhere_higher(lead(table, told), wish))

    def test_no_side_is_led_higher(self):
        for table, wish in LOW[::2]:
            told = highest_to(table, wish)
            for side in all_sides(table[0], (None, -5, -2, -1, 0, 1, 2, 5)):
                if nowhere_higher(lead(table, side), wish):
                    self.assertTrue(nowhere_higher(lead(table, side), lead(table, told)), (table, wish, side))
                    for place in range(table[0]):
                        if any(number is not None for number in column(table, place)):
                            self.assertTrue(nowhere_higher(side[place:place + 1], told[place:place + 1]))

    def test_is_met_and_missed(self):
        tried = {True: 0, False: 0}
        for table, wish in PAIRS:
            met = lead(table, highest(table, wish))
            tried[met == wish] += 1
            with self.subTest(table=table, wish=wish):
                self.assertIs(is_met(table, wish), met == wish)
                awaited = tuple(line for line in range(len(wish)) if met[line] != wish[line])
                self.assertEqual(missed(table, wish), awaited)
        self.assertGreater(min(tried.values()), 150)

    def test_is_met_by_some_side(self):
        numbers = (None, *range(-5, 6))
        for table, wish in LOW[::2]:
            if all(number is None or abs(number) < 4 for number in wish):
                some = any(lead(table, side) == wish for side in all_sides(table[0], numbers))
                self.assertIs(is_met(table, wish), some, (table, wish))

    def test_columns_and_wishes_of_none(self):
        for places in (1, 2, 3, 4):
            nothing = (places, ((None,) * places,) * 3)
            self.assertEqual(highest_to(nothing, (0, None, 1)), (None,) * places)
            self.assertEqual(missed(nothing, (0, None, 1)), (0, 2))
            self.assertIs(is_met(nothing, (None,) * 3), True)
            self.assertEqual([highest_to((places, ()), ()), is_met((places, ()), ()), missed((places, ()), ())],
                             [(None,) * places, True, ()])


class Covers(unittest.TestCase):
    def test_all_tuples_of_places(self):
        for table, wish in PAIRS:
            found = covers(table, wish)
            for many in range(table[0] + 1):
                for places in itertools.product(range(table[0] + 1), repeat=many):
                    if many < 3 or sum(places) % 3 == 0:
                        self.assertIs(is_cover(table, wish, places), places in found, (table, wish, places))

    def test_covers_by_sides(self):
        numbers = (None, *range(-4, 5))
        for table, wish in LOW[::3]:
            if all(number is None or abs(number) < 3 for number in wish):
                meeting = [side for side in all_sides(table[0], numbers) if lead(table, side) == wish]
                for many in range(table[0] + 1):
                    for places in itertools.combinations(range(table[0]), many):
                        awaited = any(all(number is None or place in places for place, number in enumerate(side))
                                      for side in meeting)
                        self.assertIs(is_cover(table, wish, places), awaited, (table, wish, places))

    def test_least_covers(self):
        several = 0
        for table, wish in PAIRS:
            found = covers(table, wish)
            least = [places for places in found if not any(set(other) < set(places) for other in found)]
            several += len({len(places) for places in least}) > 1
            with self.subTest(table=table, wish=wish):
                self.assertEqual(least_covers(table, wish), tuple(least))
                self.assertEqual(least_covers(table, wish) == (), not is_met(table, wish))
        self.assertGreater(several, 0)

    def test_least_to(self):
        for table, wish in PAIRS:
            top = highest(table, wish)
            sides = [tuple(number if place in places else None for place, number in enumerate(top))
                     for places in least_covers(table, wish)]
            self.assertEqual(least_to(table, wish), tuple(sorted(sides, key=order)), (table, wish))

    def test_no_other_side_is_nowhere_higher(self):
        numbers = (None, *range(-5, 5))
        for table, wish in LOW[::3]:
            if all(number is None or abs(number) < 3 for number in wish):
                meeting = [side for side in all_sides(table[0], numbers) if lead(table, side) == wish]
                least = [side for side in meeting
                         if not any(other != side and nowhere_higher(other, side) for other in meeting)]
                self.assertEqual(least_to(table, wish), tuple(sorted(least, key=order)), (table, wish))

    def test_of_fewer_places_first_then_in_order(self):
        table = (4, ((0, None, 0, None), (None, 0, 0, None), (None, None, 0, 0), (0, 0, None, 0)))
        self.assertEqual(least_covers(table, (0, 0, 0, 0)), ((0, 2), (1, 2), (2, 3), (0, 1, 3)))
        self.assertEqual(least_to(table, (0, 0, 0, 0)),
                         ((None, None, 0, 0), (None, 0, 0, None), (0, None, 0, None), (0, 0, None, 0)))

    def test_wishes_of_none_alone(self):
        for table in TABLES[::4]:
            wish = (None,) * len(table[1])
            self.assertEqual([least_covers(table, wish), least_to(table, wish)], [((),), ((None,) * table[0],)])
            self.assertIs(is_cover(table, wish, ()), True)

    def test_right_and_spoilt_values(self):
        for table, wish in PAIRS[::6] + [(W, (2, 1, 3)), (X, (5,))]:
            found = covers(table, wish)
            for places in found[:3]:
                for one in spoilt(places):
                    ahead = copy.deepcopy(one)
                    awaited = type(one) is tuple and all(map(is_int, one)) and one in found
                    self.assertIs(is_cover(table, wish, one), awaited, (table, wish, one))
                    self.assertEqual(one, ahead)

    def test_any_value(self):
        for table, wish in ((W, (2, 1, 3)), (X, (5,)), ((1, ()), ()), (W, (None,) * 3)):
            found = covers(table, wish)
            for one in ANY_VALUES:
                awaited = type(one) is tuple and all(map(is_int, one)) and one in found
                self.assertIs(is_cover(table, wish, one), awaited, (table, wish, one))
        for one in ((False,), (0, True), [0], (1, 0), (0, 0), (-1, 0), (0, 2)):
            self.assertIs(is_cover(X, (5,), one), False, one)


class Off(unittest.TestCase):
    def test_half_of_what_is_lacking_rounded_up(self):
        told = set()
        for table, wish in PAIRS:
            numbers = lead(table, highest(table, wish))
            if [one is None for one in numbers] != [one is None for one in wish]:
                awaited = None
            else:
                lacks = [one - other for one, other in zip(wish, numbers) if one is not None]
                awaited = -(-max(lacks, default=0) // 2)
            told.add(awaited)
            self.assertEqual(off(table, wish), awaited, (table, wish))
        self.assertTrue({None, 0, 1, 2} <= told)

    def test_no_side_is_led_nearer(self):
        numbers = (None, *range(-6, 7))
        for table, wish in LOW[::2]:
            if all(number is None or abs(number) < 4 for number in wish):
                found = []
                for side in all_sides(table[0], numbers):
                    one = lead(table, side)
                    if [number is None for number in one] == [number is None for number in wish]:
                        found.append(max([abs(a - b) for a, b in zip(one, wish) if a is not None], default=0))
                self.assertEqual(off(table, wish), min(found, default=None), (table, wish))

    def test_known_ones(self):
        self.assertEqual([off(X, (5,)), off(X, (None,)), off((2, ((None, None),)), (0,)), off((1, ()), ())],
                         [0, 0, None, 0])
        for lack, awaited in ((0, 0), (1, 1), (2, 1), (3, 2), (4, 2)):
            self.assertEqual(off((1, ((0,), (0,))), (0, lack)), awaited)


class Calls(unittest.TestCase):
    def test_unfit_ahead_of_all(self):
        for table in (W, X, (1, ()), (4, ((None,) * 4,) * 6)):
            for many in range(8):
                if many != len(table[1]):
                    for wish in ((0,) * many, (None,) * many):
                        for function in (highest_to, is_met, missed, least_covers, least_to, off):
                            with self.subTest(function=function.__name__), self.assertRaises(Unfit):
                                function(table, wish)
                        for value in (None, (), (0,), "x"):
                            with self.assertRaises(Unfit):
                                is_cover(table, wish, value)

    def test_integers_of_1000_digits(self):
        for seed in range(30):
            dice = Dice(seed)
            table = dice.table(1 + seed % 4, seed % 7, 10 ** 1000 - 1, 0.3)
            side = dice.side(table[0], 10 ** 999)
            wish = lead(table, side)
            self.assertIs(is_met(table, wish), True)
            self.assertEqual(highest_to(table, wish), highest(table, wish))
            for function in (highest_to, missed, least_covers, least_to, off):
                self.assertLessEqual(longest(function(table, wish)), 1031)
        self.assertEqual(off((1, ((0,), (0,))), (-LONG, LONG)), LONG)
        self.assertEqual(highest_to((2, ((LONG, None), (None, -LONG))), (-LONG, LONG)), (-2 * LONG, 2 * LONG))

    def test_by_name(self):
        for function in (highest_to, is_met, missed, least_covers, least_to, off):
            for wish in ((2, 1, 3), (0, 1, 5), (None, 1, 3)):
                self.assertEqual(function(wish=wish, table=W), function(W, wish))
        self.assertIs(is_cover(value=(0, 1), wish=(5,), table=X), True)


if __name__ == "__main__":
    unittest.main()
