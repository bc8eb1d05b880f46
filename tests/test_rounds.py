"""[F1] to [F4]: rounds and their means, props for a bound, and ways."""

import copy
import itertools
import unittest
from fractions import Fraction

from brute import Dice, longest, most
from ridgespans.errors import Above, NotSquare
from ridgespans.rounds import above, best_round, is_round, mean, props, props_hold, ways
from tables import KNOWN, LONG, SMALL, SQUARES, UNLIKE
from values import ANY_VALUES, are_ints, spoilt

T, V = (2, ((1, 3), (0, None))), (2, ((1, None), (2, 0)))

# A greatest mean that two rounds share, one behind the other and across one another.
SHARED = [((3, ((2, None, None), (None, None, 1), (None, 3, None))), (0,)),
          ((3, ((1, None, None), (None, None, 1), (None, 3, None))), (1, 2)),
          ((3, ((0, 3, None), (1, None, 5), (None, -1, 2))), (0, 1)),
          ((4, ((None, 0, 0, 0), (0, None, 0, 0), (0, 0, None, 0), (0, 0, 0, None))), (0, 1)),
          ((4, ((None, 0, None, None), (None, None, 1, None), (2, None, None, None), (None, None, None, 1))),
           (0, 1, 2)),
          ((4, ((0, None, None, None), (None, 1, None, None), (None, None, None, 1), (None, None, 1, None))), (1,))]
TABLES = SQUARES + SMALL + KNOWN + [T, V] + [table for table, _ in SHARED]


def is_round_of(table, value):
    """By [F1]."""
    if type(value) is not tuple or not are_ints(value, len(value)) or not value:
        return False
    if len(set(value)) < len(value) or not set(value) <= set(range(table[0])):
        return False
    return all(table[1][one][other] is not None for one, other in zip(value, value[1:] + value[:1]))


def begun_rounds(table):
    """All begun rounds in order, with their means."""
    found = {}
    for many in range(1, table[0] + 1):
        for places in itertools.permutations(range(table[0]), many):
            if is_round_of(table, places) and places[0] == min(places):
                numbers = [table[1][one][other] for one, other in zip(places, places[1:] + places[:1])]
                found[places] = Fraction(sum(numbers), many)
    return {places: found[places] for places in sorted(found)}


def pair(number):
    return None if number is None else (number.numerator, number.denominator)


def are_props(table, bound, value):
    """By [F3]."""
    if not are_ints(value, table[0]):
        return False
    top, bottom = bound
    return all(number is None or number * bottom + value[place] <= value[line] + top
               for line, numbers in enumerate(table[1]) for place, number in enumerate(numbers))


def bounds_beside(table):
    """Fractions at the greatest mean, just above and just below it, and some others."""
    means = list(begun_rounds(table).values()) or [Fraction(0)]
    beside = [most(means) + by for by in (0, Fraction(1, 1000), -Fraction(1, 1000), 1, -1)]
    return [pair(number) for number in [*beside, *means[:2], Fraction(0), Fraction(7, 3), Fraction(-50)]]


def greatest_way(table, number, line, place):
    """By [F4]: the greatest sum of all ways of up to one tie more than there are places."""
    sums = [0] if line == place else []
    for many in range(table[0] + 1):
        for middle in itertools.product(range(table[0]), repeat=many):
            ties = list(zip((line, *middle), (*middle, place)))
            numbers = [table[1][one][other] for one, other in ties]
            if None not in numbers:
                sums.append(sum(numbers) - number * len(ties))
    return most(sums)


class Rounds(unittest.TestCase):
    def test_rounds_told_from_any_place_on(self):
        for table in SQUARES + KNOWN + [T, V]:
            for many in range(table[0] + 2):
                for places in itertools.product(range(-1, table[0] + 1), repeat=min(many, 4)):
                    self.assertIs(is_round(table, places), is_round_of(table, places), (table, places))
            for places in begun_rounds(table):
                for at in range(len(places)):
                    self.assertIs(is_round(table, places[at:] + places[:at]), True)

    def test_right_and_spoilt_values(self):
        for table in SQUARES[::5] + KNOWN + [T, V]:
            for places in list(begun_rounds(table))[-3:]:
                for one in spoilt(places):
                    ahead = copy.deepcopy(one)
                    self.assertIs(is_round(table, one), is_round_of(table, one), (table, one))
                    self.assertEqual(one, ahead)

    def test_any_value(self):
        for table in (T, V, (3, ((0, 0, 0),) * 3)):
            for value in ANY_VALUES:
                self.assertIs(is_round(table, value), is_round_of(table, value), (table, value))
        self.assertIs(is_round(V, (False,)), False)
        self.assertIs(is_round(T, (0, True)), False)

    def test_mean_and_best_round(self):
        for table in TABLES:
            found = begun_rounds(table)
            top = most(found.values())
            with self.subTest(table=table):
                self.assertEqual(mean(table), pair(top))
                best = [places for places in found if found[places] == top]
                self.assertEqual(best_round(table), best[0] if best else None)

    def test_the_first_of_several_with_the_greatest_mean(self):
        for table, places in SHARED:
            self.assertGreaterEqual(len(begun_rounds(table)), 2)
            self.assertEqual(best_round(table), places)

    def test_no_round(self):
        for table in ((1, ((None,),)), (2, ((None, 7), (None, None))), (4, ((None,) * 4,) * 4),
                      (3, ((None, 1, 2), (None, None, 3), (None, None, None)))):
            self.assertEqual([mean(table), best_round(table), above(table, (-99, 1))], [None, None, None])

    def test_lowest_terms(self):
        self.assertEqual(mean((2, ((None, 3), (3, None)))), (3, 1))
        self.assertEqual(mean((2, ((None, -3), (0, None)))), (-3, 2))
        self.assertEqual(mean((4, ((None, 1, None, None), (None, None, 2, None), (None, None, None, 3),
                                   (0, None, None, None)))),
                         (3, 2))
        self.assertEqual(mean((2, ((None, -3), (3, None)))), (0, 1))


class Props(unittest.TestCase):
    def test_props_or_a_round_above_never_both(self):
        for table in TABLES:
            found = begun_rounds(table)
            for bound in bounds_beside(table):
                beyond = [places for places in found if found[places] > Fraction(*bound)]
                value = props(table, bound)
                with self.subTest(table=table, bound=bound):
                    self.assertEqual(above(table, bound), beyond[0] if beyond else None)
                    self.assertEqual(value is None, bool(beyond))
                    self.assertIs(props_hold(table, bound, value), not beyond)
                    self.assertEqual(props(table, bound), value)
                    if not beyond:
                        self.assertTrue(are_props(table, bound, value), value)

    def test_right_and_spoilt_values(self):
        for table in SQUARES[::4] + KNOWN + [T, V]:
            for bound in bounds_beside(table)[:4]:
                value = props(table, bound)
                if value is not None:
                    for one in [tuple(number + 10 ** 400 for number in value), *spoilt(value)]:
                        ahead = copy.deepcopy(one)
                        self.assertIs(props_hold(table, bound, one), are_props(table, bound, one), (table, bound, one))
                        self.assertEqual(one, ahead)

    def test_all_small_props(self):
        for table in SMALL[::4] + [T, V]:
            for bound in ((0, 1), (3, 2), (1, 1), (7, 3), (-1, 2)):
                for value in itertools.product(range(-3, 4), repeat=2):
                    self.assertIs(props_hold(table, bound, value), are_props(table, bound, value))

    def test_any_value(self):
        for table in (T, V, (1, ((0,),)), (1, ((None,),))):
            for value in ANY_VALUES:
                self.assertIs(props_hold(table, (3, 2), value), are_props(table, (3, 2), value), (table, value))
        self.assertIs(props_hold((1, ((0,),)), (1, 1), (0,)), True)
        self.assertIs(props_hold((1, ((0,),)), (1, 1), (False,)), False)

    def test_integers_of_1000_digits(self):
        for seed in range(40):
            dice = Dice(seed)
            table = dice.table(1 + seed % 4, 1 + seed % 4, 10 ** 1000 - 1, (0, 0.4)[seed % 2])
            bounds = [pair(Fraction(dice.random.randint(-10 ** 999, 10 ** 999), dice.random.randint(1, 10 ** 999)))]
            if mean(table) is not None:
                bounds += [mean(table), pair(Fraction(*mean(table)) - Fraction(1, LONG))]
            for bound in bounds:
                value = props(table, bound)
                self.assertEqual(value is None, above(table, bound) is not None)
                self.assertIs(props_hold(table, bound, value), value is not None)
                # A fraction is passed, so there may be twice as many digits and 30 more.
                self.assertLessEqual(longest(value), 2 * longest((table, bound)) + 30)
                self.assertTrue(value is None or are_props(table, bound, value))


class Ways(unittest.TestCase):
    def test_greatest_sums_of_all_ways(self):
        for table in SMALL[::2] + [table for table in SQUARES if table[0] < 4][::2] + KNOWN[:3] + [T, V]:
            for number in (-1, 0, 1, 3, 60):
                over = above(table, (number, 1))
                if over is None:
                    awaited = tuple(tuple(greatest_way(table, number, line, place) for place in range(table[0]))
                                    for line in range(table[0]))
                    self.assertEqual(ways(table, number), (table[0], awaited), (table, number))
                else:
                    with self.assertRaises(Above) as caught:
                        ways(table, number)
                    self.assertEqual(caught.exception.places, over)

    def test_four_places(self):
        for table in [table for table in SQUARES if table[0] == 4][::4]:
            number = -(-mean(table)[0] // mean(table)[1]) if mean(table) else 0
            awaited = tuple(tuple(greatest_way(table, number, line, place) for place in range(4)) for line in range(4))
            self.assertEqual(ways(table, number), (4, awaited), table)
        chain = (4, ((None, 5, None, None), (None, None, 5, None), (None, None, None, 5), (None,) * 4))
        self.assertEqual(ways(chain, 1)[1][0], (0, 4, 8, 12))
        self.assertEqual(ways(chain, 7)[1], ((0, -2, -4, -6), (None, 0, -2, -4), (None, None, 0, -2),
                                             (None,) * 3 + (0,)))

    def test_at_the_mean_and_just_below_it(self):
        self.assertEqual(ways(T, 2), (2, ((0, 1), (-2, 0))))
        for number, places in ((1, (0, 1)), (0, (0,)), (-5, (0,))):
            with self.assertRaises(Above) as caught:
                ways(T, number)
            self.assertEqual(caught.exception.places, places)
        self.assertEqual(ways((1, ((3,),)), 3), (1, ((0,),)))
        with self.assertRaises(Above) as caught:
            ways((1, ((3,),)), 2)
        self.assertEqual(caught.exception.places, (0,))

    def test_integers_of_1000_digits(self):
        for seed in range(20):
            table = Dice(seed).table(4, 4, 10 ** 1000 - 1, 0.3)
            self.assertLessEqual(longest(ways(table, 10 ** 1000 - 1)), 1030)
        self.assertEqual(ways((2, ((None, LONG), (-LONG, None))), 0), (2, ((0, LONG), (-LONG, 0))))


class Calls(unittest.TestCase):
    def test_not_square_alone(self):
        for table in UNLIKE:
            for function in (mean, best_round):
                with self.subTest(function=function.__name__), self.assertRaises(NotSquare):
                    function(table)
            for value in (None, (), (0,), (0, 0), "x"):
                with self.assertRaises(NotSquare):
                    is_round(table, value)
                with self.assertRaises(NotSquare):
                    props_hold(table, (0, 1), value)
            for function in (props, above):
                with self.subTest(function=function.__name__), self.assertRaises(NotSquare):
                    function(table, (-9, 1))
            with self.assertRaises(NotSquare):
                ways(table, -9)

    def test_by_name(self):
        self.assertIs(is_round(value=(0, 1), table=T), True)
        self.assertEqual([mean(table=T), best_round(table=T)], [(3, 2), (0, 1)])
        self.assertEqual(props(bound=(2, 1), table=T), props(T, (2, 1)))
        self.assertIs(props_hold(value=(3, 0), bound=(3, 2), table=T), True)
        self.assertEqual(above(bound=(1, 1), table=T), (0, 1))
        self.assertEqual(ways(number=1, table=V), (2, ((0, None), (1, 0))))


if __name__ == "__main__":
    unittest.main()
