"""[G1] to [G3]: rows that solve two tables, and plans, which show where there are none."""

import copy
import itertools
import unittest

from brute import Dice, all_rows, at_most, is_least, longest, makes, most, plus, shift
from ridgespans.cuts import all_keeping, keeps
from ridgespans.doubles import (equal_solutions, filled_places, plan, plan_holds, shown, shown_holds, solutions,
                                solves)
from ridgespans.errors import TooMany, Unfit
from values import ANY_VALUES, is_int, spoilt

LONG = 10 ** 999 + 12345
P, Q = (2, ((0, None), (None, 3))), (2, ((None, 2), (1, None)))
S = (2, ((None, 1), (1, None)))


def pair_of(seed, places, lines, bound, nones):
    dice = Dice(seed)
    left = dice.table(places, lines, bound, nones)
    return left, dice.table(places, lines, bound, dice.random.choice((0.2, 0.5, 0.8)))


# Pairs of tables of one to four places with 0 to 6 lines.
PAIRS = [pair_of(seed, *shape) for seed, shape in enumerate(itertools.product(
    (1, 2, 3, 4), range(7), (1, 4), (0.2, 0.4, 0.6, 0.8)))]

# Where both places step to one another, a loop gains -1, 0, 1; where a place steps to itself likewise.
TO_AND_FRO = [((2, ((0, None), (None, 3))), (2, ((None, 2), (gain + 1, None)))) for gain in (-1, 0, 1)]
BACK = [((1, ((5,),)), (1, ((5 + gain,),))) for gain in (-1, 0, 1)]
KNOWN = [(P, Q), (P, S), *TO_AND_FRO, *BACK, ((2, ()), (2, ())), ((2, ((None, None),)), (2, ((None, None),))),
         ((2, ((0, None),)), (2, ((None, None),))), ((2, ((0, 0),)), (2, ((None, None),))),
         ((2, ((None, None),)), (2, ((0, 0),))), ((3, ((0, None, None),)), (3, ((None, 0, 0),)))]


def solve(left, right, row):
    """By [G1]."""
    return all(at_most(most(map(plus, one, row)), most(map(plus, other, row)))
               for one, other in zip(left[1], right[1]))


def alike(left, right, row):
    return solve(left, right, row) and solve(right, left, row)


def is_plan(left, right, value):
    """By [G1]: whether the value is a plan, all loops gone through one by one."""
    if type(value) is not tuple or not all(type(pair) is tuple and len(pair) == 2 for pair in value):
        return False
    if not all(is_int(item) for pair in value for item in pair) or list(value) != sorted(value):
        return False
    lines = dict(value)
    if len(lines) < len(value) or not set(lines) <= set(range(left[0])):
        return False
    if not set(lines.values()) <= set(range(len(left[1]))):
        return False
    for place, line in value:
        ends = [end for end in range(left[0]) if right[1][line][end] is not None]
        if left[1][line][place] is None or not set(ends) <= set(lines):
            return False
    for many in range(1, len(value) + 1):
        for loop in itertools.permutations(lines, many):
            gains = [plus(right[1][lines[one]][other], -left[1][lines[one]][one])
                     for one, other in zip(loop, loop[1:] + loop[:1])]
            if None not in gains and sum(gains) >= 0:
                return False
    return True


def all_plans(left, right):
    """Plans of all places, whether they are plans or not."""
    options = [[None, *range(len(left[1]))] for _ in range(left[0])]
    for chosen in itertools.product(*options):
        yield tuple((place, line) for place, line in enumerate(chosen) if line is not None)


def filled_by_hand(left, right):
    """By [G3] a place is filled if it stands in no plan."""
    planned = {place for value in all_plans(left, right) if is_plan(left, right, value) for place, _ in value}
    return tuple(place for place in range(left[0]) if place not in planned)


def is_shown(left, right, place, value):
    if type(value) is not tuple or len(value) != 2 or not isinstance(value[0], str):
        return False
    if value[0] == "row":
        row = value[1]
        if type(row) is not tuple or len(row) != left[0] or not all(item is None or is_int(item) for item in row):
            return False
        return row[place] is not None and solve(left, right, row)
    return value[0] == "plan" and is_plan(left, right, value[1]) and place in dict(value[1])


class Solutions(unittest.TestCase):
    def test_solves(self):
        for left, right in PAIRS[::2] + KNOWN:
            for row in all_rows(left[0], (None, -1, 0, 2)):
                awaited = solve(left, right, row)
                self.assertIs(solves(left, right, row), awaited, (left, right, row))
                self.assertIs(all(keeps(cut, row) for cut in zip(left[1], right[1])), awaited)

    def test_just_solved_and_missed_by_one(self):
        left, right = (2, ((0, None),)), (2, ((None, 3),))
        self.assertEqual([solves(left, right, (number, 0)) for number in (2, 3, 4)], [True, True, False])
        self.assertEqual([solves(left, right, row) for row in ((0, None), (None, 0))], [False, True])

    def test_solutions(self):
        for left, right in PAIRS + KNOWN:
            lot = solutions(left, right)
            with self.subTest(left=left, right=right):
                self.assertEqual(lot[0], left[0])
                self.assertTrue(is_least(lot))
                self.assertTrue(all(solve(left, right, row) for row in lot[1]))
                for row in all_rows(left[0], (None, -2, -1, 0, 1, 2)[left[0] - 1:]):
                    self.assertEqual(makes(lot[1], row), solve(left, right, row), row)
                self.assertEqual(lot, all_keeping(left[0], tuple(zip(left[1], right[1]))))

    def test_none_solves(self):
        for places in (1, 2, 3, 4):
            left, right = (places, ((1,) * places,)), (places, ((0,) * places,))
            self.assertEqual(solutions(left, right), (places, ()))
            self.assertEqual(len(solutions(right, left)[1]), places)
            self.assertEqual(solutions((places, ()), (places, ())), solutions(right, left))

    def test_equal_solutions(self):
        for left, right in PAIRS + KNOWN:
            if len(left[1]) <= 4:
                lot = equal_solutions(left, right)
                with self.subTest(left=left, right=right):
                    self.assertTrue(lot[0] == left[0] and is_least(lot))
                    self.assertTrue(all(alike(left, right, row) for row in lot[1]))
                    for row in all_rows(left[0], (None, -2, -1, 0, 1, 2)[left[0] - 1:]):
                        self.assertEqual(makes(lot[1], row), alike(left, right, row), row)
                    self.assertEqual(equal_solutions(right, left), lot)

    def test_rows_that_are_led_alike(self):
        for seed in range(60):
            dice = Dice(seed)
            places = 2 + seed % 3
            left = dice.table(places, 4, 6, 0.2)
            row = dice.row(places, 6)
            # The right lines are the left ones, changed so that they lead the row to the same.
            lines = []
            for line in left[1]:
                other = dice.side(places, 6, 0.2)
                one_sum, other_sum = (most(map(plus, side, row)) for side in (line, other))
                lines.append(line if one_sum is None or other_sum is None else shift(other, one_sum - other_sum))
            lot = equal_solutions(left, (places, tuple(lines)))
            self.assertTrue(makes(lot[1], row), (left, lines, row))

    def test_more_than_four_lines(self):
        for many in (5, 6):
            for left, right in (((1, ((0,),) * many), (1, ((0,),) * many)), ((4, ((None,) * 4,) * many),) * 2):
                with self.assertRaises(TooMany) as caught:
                    equal_solutions(left, right)
                self.assertEqual(caught.exception.limit, 4)
        self.assertEqual(equal_solutions((1, ((0,),) * 4), (1, ((0,),) * 4)), (1, ((0,),)))

    def test_filled_places(self):
        for left, right in PAIRS + KNOWN:
            if len(left[1]) < 4 or left[0] < 4:
                self.assertEqual(filled_places(left, right), filled_by_hand(left, right), (left, right))
            rows = solutions(left, right)[1]
            awaited = tuple(place for place in range(left[0]) if any(row[place] is not None for row in rows))
            self.assertEqual(filled_places(left, right), awaited)

    def test_loops_that_gain_0_and_just_less(self):
        self.assertEqual([filled_places(*pair) for pair in TO_AND_FRO], [(), (0, 1), (0, 1)])
        self.assertEqual([filled_places(*pair) for pair in BACK], [(), (0,), (0,)])

    def test_integers_of_1000_digits(self):
        for seed in range(12):
            dice = Dice(seed)
            left, right = (dice.table(4, 4, 10 ** 1000 - 1, 0.4) for _ in range(2))
            for lot, judge in ((solutions(left, right), solve), (equal_solutions(left, right), alike)):
                self.assertTrue(all(judge(left, right, row) for row in lot[1]))
                self.assertLessEqual(longest(lot), 1030)
            self.assertTrue(is_plan(left, right, plan(left, right)))
        self.assertEqual(equal_solutions((2, ((LONG, 0),)), (2, ((None, -LONG),))), (2, ()))
        self.assertEqual(equal_solutions((2, ((LONG, None),)), (2, ((None, -LONG),))), (2, ((0, 2 * LONG),)))


class Plans(unittest.TestCase):
    def test_places_are_those_that_are_not_filled(self):
        tried = set()
        for left, right in PAIRS + KNOWN:
            value = plan(left, right)
            filled = filled_places(left, right)
            tried.add((left[0], len(filled)))
            with self.subTest(left=left, right=right):
                self.assertTrue(is_plan(left, right, value), value)
                self.assertEqual([place for place, _ in value], [at for at in range(left[0]) if at not in filled])
                self.assertIs(plan_holds(left, right, value), True)
                self.assertEqual(plan(left, right), value)
        self.assertTrue({(4, many) for many in (0, 1, 2, 3, 4)} <= tried)

    def test_all_that_may_be_plans(self):
        for left, right in PAIRS + KNOWN:
            if left[0] < 4 and len(left[1]) < 4:
                for value in all_plans(left, right):
                    self.assertIs(plan_holds(left, right, value), is_plan(left, right, value), (left, right, value))

    def test_right_and_spoilt_values(self):
        for left, right in PAIRS[::3] + KNOWN:
            for one in [(), *spoilt(plan(left, right))]:
                ahead = copy.deepcopy(one)
                self.assertIs(plan_holds(left, right, one), is_plan(left, right, one), (left, right, one))
                self.assertEqual(one, ahead)

    def test_loops_that_gain_just_0_and_just_less(self):
        value = ((0, 0), (1, 1))
        self.assertEqual([plan_holds(*pair, value) for pair in TO_AND_FRO], [True, False, False])
        self.assertEqual([plan_holds(*pair, ((0, 0),)) for pair in BACK], [True, False, False])
        # The three places step to one another; a loop of all of them gains 0, those of two less.
        left, right = (3, ((0, 0, 0),) * 3), (3, ((-9, -9, 5), (1, -9, -9), (-9, -6, -9)))
        for by, awaited in ((0, False), (-1, True)):
            lines = right[1][:2] + (shift(right[1][2], by),)
            for value in (((0, 0), (1, 1), (2, 2)),):
                self.assertIs(plan_holds(left, (3, lines), value), awaited)
                self.assertIs(is_plan(left, (3, lines), value), awaited)

    def test_what_is_asked_of_each_pair(self):
        left, right = (3, ((0, 0, None), (None, 0, 0))), (3, ((None, -1, None), (None, None, None)))
        for value, awaited in (((), True), (((1, 1),), True), (((2, 1),), True), (((0, 0),), False),
                               (((0, 0), (1, 1)), True), (((1, 1), (0, 0)), False), (((0, 1),), False),
                               (((1, 0),), True), (((1, 0), (1, 1)), False), (((2, 0),), False), (((1, 2),), False),
                               (((3, 1),), False), (((-1, 1),), False), (((1, -1),), False), (((True, 1),), False),
                               (((1, True),), False), ([(1, 1)], False), (([1, 1],), False), (((1, 1, 1),), False)):
            self.assertIs(plan_holds(left, right, value), awaited, value)

    def test_any_value(self):
        for left, right in KNOWN:
            for value in ANY_VALUES:
                for one in (value, (value,), ((0, value),), ((value, 0),)):
                    self.assertIs(plan_holds(left, right, one), is_plan(left, right, one), one)


class Shown(unittest.TestCase):
    def test_a_row_or_a_plan(self):
        for left, right in PAIRS + KNOWN:
            filled = filled_places(left, right)
            for place in range(left[0]):
                value = shown(left, right, place)
                with self.subTest(left=left, right=right, place=place):
                    self.assertEqual(value[0], "row" if place in filled else "plan")
                    self.assertTrue(is_shown(left, right, place, value), value)
                    self.assertIs(shown_holds(left, right, place, value), True)
                    self.assertEqual(shown(left, right, place), value)

    def test_right_and_spoilt_values(self):
        for left, right in PAIRS[::4] + KNOWN:
            for place in range(left[0]):
                value = shown(left, right, place)
                for one in [("row", value[1]), ("plan", value[1]), (value[0], plan(left, right)), *spoilt(value)]:
                    ahead = copy.deepcopy(one)
                    self.assertIs(shown_holds(left, right, place, one), is_shown(left, right, place, one), one)
                    self.assertEqual(one, ahead)

    def test_all_small_rows(self):
        for left, right in [pair for pair in PAIRS if pair[0][0] == 2][::3] + KNOWN:
            for row in itertools.product((None, -1, 0, 2), repeat=left[0]):
                for place in range(left[0]):
                    value = ("row", row)
                    self.assertIs(shown_holds(left, right, place, value), is_shown(left, right, place, value))

    def test_rows_beyond_the_bounds_and_bools(self):
        left, right = (2, ((0, None),)), (2, ((None, 0),))
        for row, awaited in (((LONG, LONG), True), ((LONG + 1, LONG), False), ((0, 0), True), ((False, 0), False),
                             ((0, True), False), ((None, 0), False), ((0, None), False), ([0, 0], False),
                             ((0, 0, 0), False), ((0,), False), (None, False)):
            self.assertIs(shown_holds(left, right, 0, ("row", row)), awaited, row)

    def test_any_value(self):
        for left, right in KNOWN:
            for value in ANY_VALUES:
                for one in (value, ("row", value), ("plan", value), (value, (0,) * left[0]), (value, ())):
                    for place in range(left[0]):
                        self.assertIs(shown_holds(left, right, place, one), is_shown(left, right, place, one), one)


class Calls(unittest.TestCase):
    def test_unfit_ahead_of_all(self):
        for left, right in (((1, ((0,),)), (2, ((0, 0),))), ((2, ()), (3, ())), ((2, ((0, 0),)), (2, ())),
                            ((2, ((0, 0),) * 5), (2, ((0, 0),) * 6)), ((3, ((0, 0, 0),) * 6), (2, ((0, 0),) * 6))):
            for function in (solutions, equal_solutions, filled_places, plan):
                with self.subTest(function=function.__name__), self.assertRaises(Unfit):
                    function(left, right)
            for value in (None, (), ((0, 0),), ("row", (0, 0)), ("plan", ())):
                with self.assertRaises(Unfit):
                    plan_holds(left, right, value)
                with self.assertRaises(Unfit):
                    shown_holds(left, right, 0, value)
            for row in ((0,), (0, 0), (0, 0, 0)):
                with self.assertRaises(Unfit):
                    solves(left, right, row)
            with self.assertRaises(Unfit):
                shown(left, right, 0)

    def test_unfit_rows(self):
        for left, right in ((P, Q), ((2, ()), (2, ())), ((2, ((None, None),)),) * 2):
            for row in ((0,), (0, 0, 0), (None, None, None, 0)):
                with self.assertRaises(Unfit):
                    solves(left, right, row)

    def test_by_name(self):
        self.assertIs(solves(row=(5, 3), right=Q, left=P), True)
        self.assertIs(solves(row=(5, None), right=Q, left=P), False)
        for function in (solutions, equal_solutions, filled_places, plan):
            for left, right in ((P, Q), (P, S), (S, P)):
                self.assertEqual(function(right=right, left=left), function(left, right))
        self.assertIs(plan_holds(value=((0, 0), (1, 1)), right=S, left=P), True)
        self.assertIs(plan_holds(value=((0, 0), (1, 1)), right=P, left=S), False)
        self.assertEqual(shown(place=0, right=S, left=P), ("plan", ((0, 0), (1, 1))))
        self.assertIs(shown_holds(value=("row", (0, -2)), place=1, right=Q, left=P), True)


if __name__ == "__main__":
    unittest.main()
