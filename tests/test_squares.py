"""[E1] to [E4]: choices of squares, prices and blocks, and what shows how a square table stands."""

import copy
import itertools
import unittest

from brute import Dice, longest, most
from ridgespans.errors import NotSquare
from ridgespans.squares import (balance, balance_holds, choices, even_odd, heaviest, prices, prices_hold, standing,
                                standing_holds, weight_of)
from tables import B, KNOWN, LONG, NEAR, S, SMALL, SQUARES, T, UNLIKE, heaviest_ones, weights
from values import ANY_VALUES, are_ints, is_int, spoilt


def turned(choice):
    return sum(one > other for one, other in itertools.combinations(choice, 2))


def ascends(value, below):
    if type(value) is not tuple or not all(is_int(item) and 0 <= item < below for item in value):
        return False
    return list(value) == sorted(set(value))


def is_block(table, value):
    """By [E3]."""
    if type(value) is not tuple or len(value) != 3 or not isinstance(value[0], str) or value[0] != "block":
        return False
    if not ascends(value[1], table[0]) or not ascends(value[2], table[0]):
        return False
    if len(value[1]) + len(value[2]) <= table[0]:
        return False
    return all(table[1][line][place] is None for line in value[1] for place in value[2])


def are_prices(table, value):
    """By [E3]."""
    if type(value) is not tuple or len(value) != 3 or not isinstance(value[0], str) or value[0] != "prices":
        return False
    if not are_ints(value[1], table[0]) or not are_ints(value[2], table[0]):
        return False
    for line, place in itertools.product(range(table[0]), repeat=2):
        number = table[1][line][place]
        if number is not None and number > value[1][line] + value[2][place]:
            return False
    return sum(value[1]) + sum(value[2]) == most(weights(table).values())


def is_standing(table, value):
    """By [E4]."""
    ones = heaviest_ones(table)
    if not ones:
        return is_block(table, value)
    if len(ones) > 1:
        if type(value) is not tuple or len(value) != 3 or not isinstance(value[0], str) or value[0] != "more":
            return False
        if not are_ints(value[1], table[0]) or not are_ints(value[2], table[0]):
            return False
        return value[1] in ones and value[2] in ones and value[1] != value[2]
    if type(value) is not tuple or len(value) != 4 or not isinstance(value[0], str) or value[0] != "only":
        return False
    if not is_int(value[1]) or value[1] < 1 or not are_ints(value[2], table[0]) or not are_ints(value[3], table[0]):
        return False
    for line, place in itertools.product(range(table[0]), repeat=2):
        if table[1][line][place] is not None:
            rest = value[2][line] + value[3][place] - value[1] * table[1][line][place]
            if (rest != 0) if ones[0][line] == place else (rest <= 0):
                return False
    return True


class Choices(unittest.TestCase):
    def test_weights_of_all_choices(self):
        for table in SQUARES + SMALL + KNOWN:
            for choice, weight in weights(table).items():
                self.assertEqual(weight_of(table, choice), weight, (table, choice))

    def test_heaviest_and_choices(self):
        for table in SQUARES + SMALL + KNOWN:
            with self.subTest(table=table):
                self.assertEqual(heaviest(table), most(weights(table).values()))
                self.assertEqual(choices(table), tuple(heaviest_ones(table)))
                self.assertEqual(choices(table) == (), heaviest(table) is None)

    def test_even_and_odd_ones(self):
        for table in SQUARES + SMALL + KNOWN:
            found = weights(table)
            awaited = tuple(most(found[choice] for choice in found if turned(choice) % 2 == odd) for odd in (0, 1))
            self.assertEqual(even_odd(table), awaited, table)

    def test_with_one_place_there_is_no_odd_one(self):
        self.assertEqual(even_odd((1, ((7,),))), (7, None))
        self.assertEqual(even_odd((1, ((None,),))), (None, None))
        self.assertEqual([heaviest((1, ((-7,),))), choices((1, ((-7,),))), choices((1, ((None,),)))], [-7, ((0,),), ()])

    def test_all_choices_may_be_heaviest(self):
        self.assertEqual(choices((3, ((0, 1, 2),) * 3)), tuple(itertools.permutations(range(3))))
        self.assertEqual(even_odd((3, ((0, 1, 2),) * 3)), (3, 3))

    def test_all_kinds_of_tables_are_tried(self):
        many = [len(heaviest_ones(table)) for table in SQUARES if table[0] == 4]
        self.assertTrue({0, 1, 2} <= set(many) and max(many) == 24)


class Prices(unittest.TestCase):
    def test_prices_exactly_if_there_is_a_heaviest_choice_and_a_block_otherwise(self):
        for table in SQUARES + SMALL + KNOWN:
            with self.subTest(table=table):
                value = prices(table)
                if heaviest(table) is None:
                    self.assertTrue(is_block(table, value), value)
                else:
                    self.assertTrue(are_prices(table, value), value)
                self.assertIs(prices_hold(table, value), True)
                self.assertEqual(prices(table), value)

    def test_right_and_spoilt_values(self):
        for table in SQUARES[::3] + KNOWN:
            value = prices(table)
            values = list(spoilt(value))
            if value[0] == "prices":
                # The same sums, from one line to all places and back.
                values += [("prices", tuple(price + 5 for price in value[1]), tuple(price - 5 for price in value[2]))]
            for one in values:
                ahead = copy.deepcopy(one)
                awaited = are_prices(table, one) or is_block(table, one)
                self.assertIs(prices_hold(table, one), awaited, (table, one))
                self.assertEqual(one, ahead)

    def test_any_value(self):
        for table in (S, T, B, NEAR, (1, ((0,),))):
            for value in ANY_VALUES:
                for one in (value, ("prices", value, value), ("block", value, value), (value, (0, 0), (0, 0))):
                    self.assertIs(prices_hold(table, one), False, (table, one))

    def test_all_small_prices(self):
        for table in SMALL[::3]:
            for pairs in itertools.product(range(-1, 4), repeat=4):
                value = ("prices", pairs[:2], pairs[2:])
                self.assertIs(prices_hold(table, value), are_prices(table, value), (table, value))

    def test_all_small_blocks(self):
        sides = [(), (0,), (1,), (2,), (0, 1), (0, 2), (1, 2), (0, 1, 2), (1, 0), (0, 0), (0, 3), (-1, 2)]
        for table in [B] + [table for table in SQUARES if table[0] == 3 and heaviest(table) is None][:20]:
            for lines, places in itertools.product(sides, repeat=2):
                value = ("block", lines, places)
                self.assertIs(prices_hold(table, value), is_block(table, value), (table, value))

    def test_known_ones(self):
        for value in (("prices", (3, 2), (0, -2)), ("prices", (1, 0), (2, 0))):
            self.assertIs(prices_hold(T, value), True)
        for value in (("prices", (3, 2), (0, -1)), ("prices", (4, 2), (0, -2)), ("prices", (3, 2), (0, 0, -2)),
                      ("prices", (3, 2), (False, -2)), ("price", (3, 2), (0, -2)), ["prices", (3, 2), (0, -2)],
                      ("block", (3, 2), (0, -2)), ("prices", [3, 2], (0, -2)), ("prices", (3, 2))):
            self.assertIs(prices_hold(T, value), False)
        self.assertIs(prices_hold((2, ((1, 0), (0, 1))), ("prices", (True, 1), (0, 0))), False)
        self.assertIs(prices_hold((2, ((None, 0), (None, 0))), ("block", (False, True), (0,))), False)
        self.assertIs(prices_hold((2, ((None, 0), (None, 0))), ("block", (0, 1), (0,))), True)


class Standing(unittest.TestCase):
    def test_the_three_sorts(self):
        sorts = {0: "block", 1: "only"}
        for table in SQUARES + SMALL + KNOWN:
            with self.subTest(table=table):
                value = standing(table)
                self.assertEqual(value[0], sorts.get(len(choices(table)), "more"))
                self.assertTrue(is_standing(table, value), value)
                self.assertIs(standing_holds(table, value), True)
                self.assertEqual(standing(table), value)

    def test_right_and_spoilt_values(self):
        for table in SQUARES[::3] + KNOWN:
            value = standing(table)
            values = list(spoilt(value))
            if value[0] == "only":
                values.append(("only", 7 * value[1], *(tuple(7 * price for price in side) for side in value[2:])))
            for one in values:
                ahead = copy.deepcopy(one)
                self.assertIs(standing_holds(table, one), is_standing(table, one), (table, one))
                self.assertEqual(one, ahead)

    def test_any_value(self):
        for table in (S, T, B, NEAR, (1, ((0,),))):
            for value in ANY_VALUES:
                for one in (value, ("only", value, value, value), ("only", 1, value, value), ("more", value, value),
                            ("more", (0, 1), value), ("block", value, value), (value, 1, (0,), (0,))):
                    self.assertIs(standing_holds(table, one), False, (table, one))

    def test_the_sort_of_another_table(self):
        values = [standing(table) for table in (S, T, (2, ((None, None), (0, 0))))]
        for table in SMALL:
            for value in values + [("only", 1, (0, 0), (0, 0)), ("more", (0, 1), (0, 1)), ("more", (1, 0), (0, 1))]:
                self.assertIs(standing_holds(table, value), is_standing(table, value), (table, value))

    def test_small_prices(self):
        for table in (S, (2, ((1, None), (0, 0))), (2, ((1, 0), (0, 0)))):
            for bottom in (-1, 0, 1, 2, 3):
                for pairs in itertools.product(range(-1, 4), repeat=4):
                    value = ("only", bottom, pairs[:2], pairs[2:])
                    self.assertIs(standing_holds(table, value), is_standing(table, value), (table, value))

    def test_two_weights_that_are_near(self):
        self.assertEqual(standing(NEAR)[0], "only")
        self.assertIs(standing_holds(NEAR, ("only", 4, (0, -1, -2, -3), (0, 1, 2, 3))), True)
        self.assertIs(standing_holds(NEAR, ("only", 3, (0, -1, -2, -3), (0, 1, 2, 3))), False)
        for seed in range(200):
            table = near_one(seed)
            self.assertEqual(len(choices(table)), 1 if seed % 3 else 2)
            self.assertTrue(is_standing(table, standing(table)), table)
            self.assertIs(standing_holds(table, standing(table)), True)

    def test_bools_stand_for_no_places(self):
        self.assertIs(standing_holds(T, ("more", (0, 1), (1, 0))), True)
        for value in (("more", (False, True), (1, 0)), ("more", (0, 1), (True, 0)), ("more", [0, 1], (1, 0))):
            self.assertIs(standing_holds(T, value), False)
        self.assertIs(standing_holds((1, ((0,),)), ("only", 1, (0,), (0,))), True)
        self.assertIs(standing_holds((1, ((0,),)), ("only", True, (0,), (0,))), False)
        self.assertIs(standing_holds((1, ((0,),)), ("only", 1, (False,), (0,))), False)


def near_one(seed):
    """A table whose first choice weighs 0, some other one 1 less (or as much), all others less."""
    dice = Dice(seed)
    places = 2 + seed % 3
    lines = [[-dice.random.randint(20, 40) for _ in range(places)] for _ in range(places)]
    for place in range(places):
        lines[place][place] = 0
        lines[place][(place + 1) % places] = 0
    lines[seed % places][(seed + 1) % places] -= 1 if seed % 3 else 0
    shifts = [dice.random.randint(-9, 9) for _ in range(places)]
    return (places, tuple(tuple(number + shifts[place] - shifts[at] for place, number in enumerate(line))
                          for at, line in enumerate(lines)))


class Calls(unittest.TestCase):
    def test_not_square_alone(self):
        for table in UNLIKE:
            for function in (heaviest, choices, even_odd, prices, standing, balance):
                with self.subTest(function=function.__name__), self.assertRaises(NotSquare):
                    function(table)
            for value in (None, (), ("prices", (0, 0), (0, 0)), ("block", (0,), (0, 1)), ((0,), (None,))):
                for function in (prices_hold, standing_holds, balance_holds):
                    with self.subTest(function=function.__name__), self.assertRaises(NotSquare):
                        function(table, value)
            for choice in ((), (0,), (0, 1)):
                with self.assertRaises(NotSquare):
                    weight_of(table, choice)

    def test_integers_of_1000_digits(self):
        for seed in range(60):
            dice = Dice(seed)
            table = dice.table(1 + seed % 4, 1 + seed % 4, 10 ** 1000 - 1, (0, 0.3, 0.6)[seed % 3])
            for told in (heaviest(table), choices(table), even_odd(table)):
                self.assertLessEqual(longest(told), 1030)
            self.assertTrue(are_prices(table, prices(table)) or is_block(table, prices(table)))
            self.assertIs(prices_hold(table, prices(table)), True)
            self.assertTrue(is_standing(table, standing(table)))
            self.assertIs(standing_holds(table, standing(table)), True)
            for told in prices(table)[1:] + standing(table)[1:]:
                self.assertLessEqual(longest(told), 1030)
        long = (2, ((LONG, 0), (0, -LONG)))
        self.assertEqual([heaviest(long), choices(long), standing(long)[0]], [0, ((0, 1), (1, 0)), "more"])
        self.assertEqual(choices((2, ((LONG, 0), (0, 1 - LONG)))), ((0, 1),))

    def test_by_name(self):
        self.assertEqual(weight_of(choice=(0, 1), table=S), -1)
        for function in (heaviest, choices, even_odd, prices, standing):
            for table in (S, T, B):
                self.assertEqual(function(table=table), function(table))
        self.assertIs(prices_hold(value=prices(S), table=S), True)
        self.assertIs(standing_holds(value=standing(S), table=S), True)


if __name__ == "__main__":
    unittest.main()
