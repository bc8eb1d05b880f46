"""[H1] to [H3]: games of means, their worths and best plans."""

import copy
import itertools
import unittest
from fractions import Fraction

from brute import Dice, shift
from ridgespans.doubles import filled_places
from ridgespans.games import (best_high, best_low, game_error, is_best_high, is_best_low, line_worths, mean_from,
                              worths)
from values import ANY_VALUES, are_ints, spoilt

G = ((2, ((0, None), (1, 0))), (2, ((2, None), (0, 1))))
F = ((2, ((0, None), (None, 0))), (2, ((None, 1), (2, None))))
ONE = ((1, ((20,),)), (1, ((-20,),)))


def game_of(seed, places, lines, bound, nones):
    dice = Dice(seed)
    while True:
        game = dice.table(places, lines, bound, nones), dice.table(places, lines, bound, nones)
        if all(any(number is not None for number in side) for side in (*zip(*game[0][1]), *game[1][1])):
            return game


GAMES = [G, F, ONE] + [game_of(seed, *shape) for seed, shape in enumerate(itertools.product(
    (1, 2, 3), (1, 2, 3), (0, 1, 4, 20), (0, 0.4, 0.6)))]
# Of these many have places of unlike worths.
GAMES += [game_of(900 + seed, 3, 2 + seed % 2, 6, 0.75) for seed in range(120)]


def low_plans(game):
    places = range(game[0][0])
    return [plan for plan in itertools.product(range(len(game[0][1])), repeat=game[0][0])
            if all(game[0][1][plan[place]][place] is not None for place in places)]


def high_plans(game):
    lines = range(len(game[1][1]))
    return [plan for plan in itertools.product(range(game[1][0]), repeat=len(game[1][1]))
            if all(game[1][1][line][plan[line]] is not None for line in lines)]


def walk(game, low, high, place):
    """The mean of the loop that comes of going on from the place, found by walking until a place comes again."""
    gains, seen = [], []
    while place not in seen:
        seen.append(place)
        line = low[place]
        gains.append(game[1][1][line][high[line]] - game[0][1][line][place])
        place = high[line]
    return Fraction(sum(gains[seen.index(place):]), len(seen) - seen.index(place))


def means(game):
    """The means from all places, for all pairs of plans."""
    return {low: {high: [walk(game, low, high, place) for place in range(game[0][0])] for high in high_plans(game)}
            for low in low_plans(game)}


def worths_of(game):
    found = means(game)
    return [min(max(found[low][high][place] for high in found[low]) for low in found) for place in range(game[0][0])]


def pair(number):
    return number.numerator, number.denominator


class Errors(unittest.TestCase):
    def test_games(self):
        for game in GAMES:
            self.assertIsNone(game_error(game))

    def test_what_is_no_pair(self):
        for value in [*ANY_VALUES, list(G), G[:1], G + G[:1], {0: G[0], 1: G[1]}]:
            if type(value) is not tuple or len(value) != 2:
                self.assertEqual(game_error(value), (None, "game"))

    def test_what_is_no_table_of_its_size(self):
        good = (2, ((0, 20), (-20, None)))
        for bad in [*ANY_VALUES, (2, ((0, 21), (0, 0))), (2, ((0, 0), (-21, 0))), (2, ()), (4, ((0,) * 4,)), (4, ()),
                    (1, ((0,),) * 4), (0, ()), (2, ((0,), (0, 0))), (2, [(0, 0), (0, 0)]), (2, ((True, 0), (0, 0))),
                    (2, ([0, 0], (0, 0))), (True, ((0,), (0,))), (2, ((0, 0), (0, 0)), ()), (2, ((10 ** 400, 0),)),
                    (3, ((0, 0, 0),) * 7)]:
            ahead = copy.deepcopy(bad)
            self.assertEqual(game_error((bad, good)), (0, "table"), bad)
            self.assertEqual(game_error((good, bad)), (1, "table"), bad)
            self.assertEqual(game_error((bad, bad)), (0, "table"), bad)
            self.assertEqual(bad, ahead)

    def test_tables_that_are_unlike(self):
        for one, other in itertools.permutations([(1, 2), (2, 1), (2, 2), (3, 2), (2, 3), (3, 3)], 2):
            tables = [(places, ((0,) * places,) * lines) for places, lines in (one, other)]
            self.assertEqual(game_error(tuple(tables)), (None, "unlike"))

    def test_places_ahead_of_lines(self):
        nothing = (3, ((None,) * 3,) * 3)
        self.assertEqual(game_error((nothing, nothing)), (0, "place"))
        for place in range(3):
            left = (3, tuple(tuple(None if place <= at else 0 for at in range(3)) for _ in range(3)))
            self.assertEqual(game_error((left, nothing)), (place, "place"))
        full = (3, ((None, 0, None), (None, None, 0), (0, None, None)))
        self.assertEqual(game_error((full, nothing)), (0, "line"))
        self.assertEqual(game_error((full, (3, full[1][:2] + nothing[1][:1]))), (2, "line"))
        self.assertEqual(game_error((full, (3, full[1][:1] + nothing[1][:2]))), (1, "line"))

    def test_several_faults_at_once(self):
        self.assertEqual(game_error([7, 8]), (None, "game"))
        self.assertEqual(game_error(((2, ((None, 21),)), 7)), (0, "table"))
        self.assertEqual(game_error(((2, ((None, 0),)), (1, ((21,),)))), (1, "table"))
        self.assertEqual(game_error(((2, ((None, 0),)), (2, ((None, None), (None, None))))), (None, "unlike"))
        self.assertEqual(game_error(((2, ((None, 0),)), (1, ((None,),)))), (None, "unlike"))
        self.assertEqual(game_error(((2, ((0, None),)), (2, ((None, None),)))), (1, "place"))

    def test_just_within_the_bounds(self):
        for number, awaited in ((20, None), (-20, None), (21, (0, "table")), (-21, (0, "table"))):
            self.assertEqual(game_error(((1, ((number,),)), (1, ((0,),)))), awaited)
        for number, awaited in ((20, None), (-20, None), (21, (1, "table")), (-21, (1, "table"))):
            self.assertEqual(game_error(((1, ((0,),)), (1, ((number,),)))), awaited)


class Worths(unittest.TestCase):
    def test_means_by_walking(self):
        for game in GAMES:
            for low, against in means(game).items():
                for high, found in against.items():
                    self.assertEqual(mean_from(game, low, high), tuple(map(pair, found)), (game, low, high))

    def test_worths_against_all_plans_of_both(self):
        for game in GAMES:
            found = worths_of(game)
            with self.subTest(game=game):
                self.assertEqual(worths(game), tuple(map(pair, found)))
                against = means(game)
                for place in range(game[0][0]):
                    other = max(min(against[low][high][place] for low in against) for high in high_plans(game))
                    self.assertEqual(other, found[place])

    def test_worths_of_lines(self):
        for game in GAMES:
            found = worths_of(game)
            awaited = [max(found[place] for place, number in enumerate(line) if number is not None)
                       for line in game[1][1]]
            self.assertEqual(line_worths(game), tuple(map(pair, awaited)), game)

    def test_unlike_worths_are_tried(self):
        self.assertGreater(sum(len(set(worths(game))) > 1 for game in GAMES), 12)
        self.assertGreater(sum(any(worth[1] > 1 for worth in worths(game)) for game in GAMES), 12)

    def test_a_worth_is_at_least_an_integer_exactly_if_the_place_is_filled(self):
        for game in GAMES:
            places, right = game[1]
            beside = {top // bottom + by for top, bottom in worths(game) for by in (-1, 0, 1, 2)}
            for number in (-41, *beside, 41):
                less = (places, tuple(shift(line, -number) for line in right))
                awaited = [place for place, (top, bottom) in enumerate(worths(game)) if top >= number * bottom]
                self.assertEqual(filled_places(game[0], less), tuple(awaited), (game, number))

    def test_known_ones(self):
        self.assertEqual(worths(ONE), ((-40, 1),))
        self.assertEqual(mean_from(ONE, (0,), (0,)), ((-40, 1),))
        self.assertEqual([worths(F), line_worths(F)], [((3, 2), (3, 2)), ((3, 2), (3, 2))])
        # From the last place all steps lead into the loop of the first one.
        game = ((3, ((0, None, None), (None, 0, None), (None, None, 0))),
                (3, ((1, None, None), (None, 2, None), (0, 0, None))))
        self.assertEqual([worths(game), line_worths(game)], [((1, 1), (2, 1), (2, 1)), ((1, 1), (2, 1), (2, 1))])


class BestPlans(unittest.TestCase):
    def test_best_plans_against_all_plans(self):
        for game in GAMES:
            found, against = worths_of(game), means(game)
            low, high = best_low(game), best_high(game)
            with self.subTest(game=game):
                self.assertIn(low, low_plans(game))
                self.assertIn(high, high_plans(game))
                for other in high_plans(game):
                    self.assertTrue(all(one <= worth for one, worth in zip(against[low][other], found)))
                for other in low_plans(game):
                    self.assertTrue(all(one >= worth for one, worth in zip(against[other][high], found)))
                self.assertEqual(mean_from(game, low, high), worths(game))
                self.assertEqual([best_low(game), best_high(game)], [low, high])

    def judge_low(self, game, found, against, value):
        if not are_ints(value, game[0][0]) or value not in against:
            return False
        return all(one <= worth for means_of in against[value].values() for one, worth in zip(means_of, found))

    def judge_high(self, game, found, against, value):
        if not are_ints(value, len(game[0][1])) or value not in high_plans(game):
            return False
        return all(one >= worth for by_high in against.values() for one, worth in zip(by_high[value], found))

    def test_all_plans_and_other_values(self):
        tried = set()
        for game in GAMES[::2]:
            found, against = worths_of(game), means(game)
            many = (game[0][0], len(game[0][1]))
            for length in {*many, many[0] + 1}:
                for value in itertools.product(range(-1, 4), repeat=length):
                    awaited = self.judge_low(game, found, against, value)
                    if value in against or length < 2:
                        self.assertIs(is_best_low(game, value), awaited, (game, value))
                        tried.add(("low", value in against, awaited))
                    elif sum(value) % 5 == 0:
                        self.assertIs(is_best_low(game, value), awaited, (game, value))
                    awaited = self.judge_high(game, found, against, value)
                    if value in high_plans(game) or sum(value) % 5 == 0:
                        self.assertIs(is_best_high(game, value), awaited, (game, value))
                        tried.add(("high", value in high_plans(game), awaited))
        self.assertTrue({(word, True, right) for word in ("low", "high") for right in (True, False)} <= tried)

    def test_spoilt_values(self):
        for game in GAMES[::5]:
            found, against = worths_of(game), means(game)
            for value in spoilt(best_low(game)):
                ahead = copy.deepcopy(value)
                self.assertIs(is_best_low(game, value), self.judge_low(game, found, against, value), (game, value))
                self.assertEqual(value, ahead)
            for value in spoilt(best_high(game)):
                ahead = copy.deepcopy(value)
                self.assertIs(is_best_high(game, value), self.judge_high(game, found, against, value), (game, value))
                self.assertEqual(value, ahead)

    def test_any_value(self):
        for game in (G, F, ONE):
            found, against = worths_of(game), means(game)
            for value in ANY_VALUES:
                for one in (value, (value, value), (0, value), (value, 1)):
                    self.assertIs(is_best_low(game, one), self.judge_low(game, found, against, one), (game, one))
                    self.assertIs(is_best_high(game, one), self.judge_high(game, found, against, one), (game, one))
        self.assertIs(is_best_low(G, (True, 1)), False)
        self.assertIs(is_best_high(G, (0, True)), False)
        self.assertIs(is_best_high(G, (0, 1)), True)

    def test_lines_and_places_that_are_not_as_many(self):
        game = ((1, ((0,), (0,), (0,))), (1, ((1,), (0,), (2,))))
        self.assertEqual([best_low(game), best_high(game), worths(game)], [(1,), (0, 0, 0), ((0, 1),)])
        self.assertEqual([is_best_low(game, (1,)), is_best_low(game, (1, 0, 0)), is_best_high(game, (0,))],
                         [True, False, False])
        game = ((3, ((0, 0, 0),)), (3, ((1, 0, 2),)))
        self.assertEqual([best_low(game), best_high(game), worths(game)], [(0, 0, 0), (2,), ((2, 1),) * 3])


class Calls(unittest.TestCase):
    def test_by_name(self):
        self.assertIsNone(game_error(value=G))
        self.assertEqual(mean_from(high=(0, 0), low=(0, 1), game=G), ((2, 1), (2, 1)))
        for function in (worths, line_worths, best_low, best_high):
            for game in (G, F):
                self.assertEqual(function(game=game), function(game))
        self.assertIs(is_best_low(value=(1, 1), game=G), True)
        self.assertIs(is_best_high(value=(0, 1), game=G), True)


if __name__ == "__main__":
    unittest.main()
