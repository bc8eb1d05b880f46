"""The examples of the document, with the answers that it shows."""

import unittest

# Copied letter by letter from the document: a line behind ">>> " and, where it
# is an expression, the answer or the error on the next line.
EXAMPLES = {
    "A7": r'''
    >>> from ridgespans.rows import begun, is_higher, is_row, is_side, laid, led, lot_error, shifted, table_error
    >>> from ridgespans.texts import lot_text, parse_lot
    >>> L = (3, ((0, 2, None), (0, 0, 0), (None, 1, 3)))
    >>> T = (3, ((0, None, 2), (None, None, None), (1, 1, 1)))
    >>> [lot_error(L), lot_error((3, ((0, 2), (None, None, None)))), lot_error((2, [(0, 0)])), table_error(T), is_row(2, (None, None)), is_side(2, (None, None)), is_row(2, (True, 0))]
    [None, (0, 'row'), (None, 'rows'), None, False, True, False]
    >>> [shifted((0, None), 3), shifted((0, None), None), laid((0, 2, None), (1, None, None)), begun((None, 4, 1)), is_higher((0, None), (0, 5)), is_higher((0, 0), (0, None)), led(T, (1, None, 0))]
    [(3, None), (None, None), (1, 2, None), (None, 0, -3), False, True, (2, None, 2)]
    >>> [lot_text(L), parse_lot("2\n0 .\n-1 7") == (2, ((0, None), (-1, 7))), parse_lot("1")]
    ['3\n0 2 .\n0 0 0\n. 1 3', True, (1, ())]
    >>> parse_lot("2\n0 .\n. .")
    raises BadText(2)
''',
    "B4": r'''
    >>> from ridgespans.spans import alike, fewest_of, gap, highest_below, is_in, joined, least_lot, parting, shifts_of, spread, within
    >>> L = (3, ((0, 2, None), (0, 0, 0), (None, 1, 3)))
    >>> [shifts_of(L, (1, 2, 3)), highest_below(L, (1, 2, 3)), is_in(L, (1, 2, 3)), is_in(L, (0, 0, 5)), highest_below(L, (0, 0, 5)), fewest_of(L, (1, 3, 5)), highest_below(L, (5, None, None))]
    [(0, 1, 0), (1, 2, 3), True, False, (0, 0, 2), (0, 2), None]
    >>> [least_lot((2, ((0, 0), (1, 4), (3, 5), (None, 7)))), within((2, ((2, 2),)), (2, ((0, 0), (0, 3)))), within((2, ((2, 0),)), (2, ((0, 0), (0, 3)))), alike((2, ((0, 0), (0, 3), (5, 6))), (2, ((4, 7), (1, 1)))), parting(L, (3, ((0, 0, 0),))), spread((0, 2, 5), (1, 1, 1)), gap((3, ((0, 0, 0),)), (0, 2, 5))]
    [(2, ((None, 0), (0, 0))), True, False, True, (None, 0, 2), 5, 5]
''',
    "C6": r'''
    >>> from ridgespans.cuts import all_keeping, common, cut_off, cut_off_holds, cuts_for_holds, idle_cuts, is_cut, is_kept, keeps, parted_by
    >>> E = (2, ((0, 0), (0, 3)))
    >>> c, d = ((0, None), (None, 0)), ((None, -3), (0, None))
    >>> [is_cut(2, c), is_cut(2, ((0, None), (None,))), keeps(c, (2, 2)), keeps(c, (3, 2)), keeps(c, (None, 5)), keeps(c, (5, None)), is_kept(d, E), is_kept(((None, -2), (0, None)), E)]
    [True, False, True, False, True, False, True, False]
    >>> [cut_off(E, (1, 2)), cut_off_holds(E, (0, 5), d), cut_off_holds(E, (0, 5), ((None, -4), (0, None))), cut_off_holds(E, (0, 5), ((None, -2), (0, None))), cut_off_holds(E, (0, 2), d)]
    [None, True, True, False, False]
    >>> L = (3, ((0, 2, None), (0, 0, 0), (None, 1, 3)))
    >>> [cut_off_holds(L, (0, 0, 5), ((None, None, -2), (0, 0, None))), cut_off_holds(L, (5, None, None), ((0, None, None), (None, 0, 0)))]
    [True, True]
    >>> [all_keeping(2, (((0, None), (None, 1)),)), all_keeping(2, (c, d)), all_keeping(2, ()), all_keeping(2, (((0, 0), (None, None)),))]
    [(2, ((None, 0), (0, -1))), (2, ((0, 0), (0, 3))), (2, ((None, 0), (0, None))), (2, ())]
    >>> [parted_by(2, (c,), ((0, None), (None, -1))), parted_by(2, (c,), ((0, None), (None, 4))), idle_cuts(2, (c, ((0, None), (None, 4)), d)), idle_cuts(2, (c, c))]
    [(0, 0), None, (1,), (0, 1)]
    >>> [common(E, (2, ((0, 2), (0, 7)))), common((2, ((0, 0),)), (2, ((0, 1),))), cuts_for_holds(E, (c, d)), cuts_for_holds(E, (c,))]
    [(2, ((0, 2), (0, 3))), (2, ()), True, False]
''',
    "D7": r'''
    >>> from ridgespans.bends import apart, by_corners, corners, filled, height, higher_at, is_bend, is_under, often, over, put_in, reaching, shared, slid, sum_of, taken_out
    >>> from ridgespans.fitting import leanest, lot_of, told_by, untold
    >>> K, H = (0, 1, None, -3), (0, None, 1)
    >>> [is_bend(K), is_bend((None, None)), [height(K, at) for at in ((0, 1), (-1, 1), (1, 2), (2, 1))], reaching(K, (2, 1)), reaching(K, (5, 2))]
    [True, False, [(1, 1), (0, 1), (3, 2), (3, 1)], (1, 3), (3,)]
    >>> [filled(K), filled(H), filled((None, 4, None)), corners(K), corners(H), by_corners(0, 0, (((-1, 1), 1), ((2, 1), 2)))]
    [(0, 1, -1, -3), (0, 0, 1), (None, 4), (((-1, 1), 1), ((2, 1), 2)), (((-1, 2), 2),), (0, 1, -1, -3)]
    >>> by_corners(0, 0, (((1, 1), 1), ((3, 2), 3)))
    raises BadCorners(1)
    >>> [over(K, (None, 2)), sum_of((0, 1), H), put_in(H, (2, 0)), slid(K, 1), often((0, 1), 2)]
    [(0, 2, -1, -3), (0, 1, 1, 2), (5, 3, 1), (0, 2, 1, 0), (0, 1, 2)]
    >>> [apart(H, (0, 0, 1)), is_under(H, (0, 0, 1)), is_under((0, 1), H), higher_at(H, (0, 0, 1)), taken_out((0, 1, 1, 2), (0, 1)), taken_out((0, 1, 1, 2), (0, 0)), shared((0, 1, 1, 2), (None, 5, 6))]
    [None, True, False, None, (0, 0, 1), None, (0, 1)]
    >>> [lot_of((0, 2), 2), told_by((0, 2), (0, 1), 2), untold((0, 2), (0, 1), 2), leanest((0, 2), (0, 1), 2), untold((0, 1, 2), (0, 2, 3), 5), leanest((0, 1, 2), (0, 2, 3), 5)]
    [(2, ((0, 0), (0, 2), (0, 4))), (0, -1, -3), (), (0, -1), (1,), None]
''',
    "E6": r'''
    >>> from ridgespans.squares import balance, balance_holds, choices, even_odd, heaviest, prices, prices_hold, rank, rank_square, square_of, standing, standing_holds, weight_of
    >>> S, T = (2, ((0, 0), (0, -1))), (2, ((3, 1), (2, 0)))
    >>> B = (3, ((0, None, None), (5, None, None), (1, 2, 3)))
    >>> [weight_of(S, (0, 1)), heaviest(S), choices(S), even_odd(S), heaviest(T), choices(T), even_odd(T), heaviest(B), choices(B), even_odd((1, ((7,),)))]
    [-1, 0, ((1, 0),), (-1, 0), 3, ((0, 1), (1, 0)), (3, 3), None, (), (7, None)]
    >>> [prices_hold(S, ("prices", (0, 0), (0, 0))), prices_hold(S, ("prices", (1, 0), (0, 0))), prices_hold(B, ("block", (0, 1), (1, 2))), prices_hold(B, ("block", (0, 1), (2,))), prices(S)[0], prices(B)[0]]
    [True, False, True, False, 'prices', 'block']
    >>> [standing_holds(S, ("only", 2, (1, 0), (0, -1))), standing_holds(S, ("only", 1, (1, 0), (0, 0))), standing(S)[0], standing(T) in (("more", (0, 1), (1, 0)), ("more", (1, 0), (0, 1))), standing(B)[0]]
    [True, False, 'only', True, 'block']
    >>> [balance_holds(T, ((0, None), (None, 1))), balance_holds(T, ((0, 0), (None, 1))), balance(S), balance_holds(B, balance(B)), balance_holds(B, ((0, None, None), (None, -5, None)))]
    [True, False, None, True, True]
    >>> C = (3, ((0, 0, 0), (0, 1, 2), (0, 2, 4)))
    >>> [heaviest(C), rank(C), rank((3, ((0, 0, 0), (1, 1, 1)))), rank_square((3, ((0, 0, 0), (1, 1, 1)))), rank_square((2, ((None, 0), (0, 0)))), square_of(C, (0, 2), (1, 2)), rank((2, ((None, None),))), rank((2, ()))]
    [5, 3, 1, ((0,), (0,)), ((0, 1), (0, 1)), (2, ((0, 0), (2, 4))), 0, 0]
    >>> heaviest((2, ((0, 0),)))
    raises NotSquare()
''',
    "F5": r'''
    >>> from ridgespans.rounds import above, best_round, calm, is_round, mean, props, props_hold, rest_numbers, rests, ways
    >>> T, V = (2, ((1, 3), (0, None))), (2, ((1, None), (2, 0)))
    >>> [is_round(T, (0, 1)), is_round(T, (1,)), is_round(T, (1, 0)), mean(T), best_round(T), mean(V), best_round(V), mean((1, ((None,),)))]
    [True, False, True, (3, 2), (0, 1), (1, 1), (0,), None]
    >>> [props_hold(T, (3, 2), (3, 0)), props_hold(T, (3, 2), (4, 0)), props(T, (1, 1)), above(T, (1, 1)), above(T, (3, 2)), props_hold(T, (2, 1), props(T, (2, 1)))]
    [True, False, None, (0, 1), None, True]
    >>> [ways(V, 1), ways(V, 4), calm(V, 1), calm(V, 0), rests(V, 1), rests(V, 0), rest_numbers(V), rests(T, 1), rest_numbers(T)]
    [(2, ((0, None), (1, 0))), (2, ((0, None), (-2, 0))), (2, ((None, 0), (0, 1))), (2, ((None, 0),)), (2, ((0, 1),)), (2, ((None, 0),)), (0, 1), (2, ()), ()]
    >>> ways(T, 1)
    raises Above((0, 1))
''',
    "G3": r'''
    >>> from ridgespans.doubles import equal_solutions, filled_places, plan, plan_holds, shown, shown_holds, solutions, solves
    >>> P, Q = (2, ((0, None), (None, 3))), (2, ((None, 2), (1, None)))
    >>> [solves(P, Q, (5, 3)), solves(P, Q, (5, None)), solutions(P, Q), filled_places(P, Q), plan(P, Q), shown_holds(P, Q, 1, ("row", (0, -2)))]
    [True, False, (2, ((0, -2),)), (0, 1), (), True]
    >>> S = (2, ((None, 1), (1, None)))
    >>> [solutions(P, S), filled_places(P, S), plan(P, S), shown(P, S, 0), plan_holds(P, S, ((0, 0),)), plan_holds(P, Q, ((0, 0), (1, 1)))]
    [(2, ()), (), ((0, 0), (1, 1)), ('plan', ((0, 0), (1, 1))), False, False]
    >>> [solutions((3, ((0, None, None),)), (3, ((None, 0, 0),))), equal_solutions((2, ((0, 0),)), (2, ((1, None),)))]
    [(3, ((None, None, 0), (None, 0, None), (0, None, 0), (0, 0, None))), (2, ((0, 1),))]
    >>> [filled_places((2, ((0, None),)), (2, ((None, None),))), plan((2, ((0, None),)), (2, ((None, None),))), solutions((2, ()), (2, ()))]
    [(1,), ((0, 0),), (2, ((None, 0), (0, None)))]
''',
    "H3": r'''
    >>> from ridgespans.games import best_high, best_low, game_error, is_best_high, is_best_low, line_worths, mean_from, worths
    >>> G = ((2, ((0, None), (1, 0))), (2, ((2, None), (0, 1))))
    >>> [game_error(G), worths(G), line_worths(G), best_low(G), best_high(G), is_best_low(G, (0, 1)), is_best_high(G, (0, 0))]
    [None, ((1, 1), (1, 1)), ((1, 1), (1, 1)), (1, 1), (0, 1), False, False]
    >>> [mean_from(G, (0, 1), (0, 0)), mean_from(G, (1, 1), (0, 0)), mean_from(G, (1, 1), (0, 1))]
    [((2, 1), (2, 1)), ((-1, 1), (-1, 1)), ((1, 1), (1, 1))]
    >>> F = ((2, ((0, None), (None, 0))), (2, ((None, 1), (2, None))))
    >>> [worths(F), game_error((G[0], (2, ((2, None), (None, None))))), game_error((G[0], (2, ((0, 0),)))), game_error([G[0], G[1]])]
    [((3, 2), (3, 2)), (1, 'line'), (None, 'unlike'), (None, 'game')]
''',
    "I4": r'''
    >>> from ridgespans.wishes import highest_to, is_cover, is_met, least_covers, least_to, missed, off
    >>> W, X = (3, ((0, 2, None), (1, 0, None), (None, 3, None))), (2, ((0, 0),))
    >>> [highest_to(W, (2, 1, 3)), is_met(W, (2, 1, 3)), missed(W, (2, 1, 3)), highest_to(W, (0, 1, 5)), missed(W, (0, 1, 5)), off(W, (0, 1, 5)), off(W, (2, 1, 3))]
    [(0, 0, None), True, (), (0, -2, None), (2,), 2, 0]
    >>> [least_covers(W, (2, 1, 3)), least_covers(X, (5,)), least_to(X, (5,)), least_to(W, (0, 1, 5)), is_cover(X, (5,), (0, 1)), is_cover(W, (2, 1, 3), (1,))]
    [((0, 1),), ((0,), (1,)), ((None, 5), (5, None)), (), True, False]
    >>> [highest_to(W, (None, 1, 3)), missed(W, (None, 1, 3)), off(W, (None, 1, 3)), least_covers(W, (None, None, None)), least_to((1, ()), ())]
    [(None, None, None), (1, 2), None, ((),), ((None,),)]
    >>> highest_to(X, (5, 5))
    raises Unfit()
''',
    "K5": r'''
    >>> from ridgespans.beats import beat, best_walk, entry_at, first_at_least, growth, lasting, led_often, power
    >>> from ridgespans.beats import walk_holds, whole_beat
    >>> W = (2, ((3, -5), (-5, 4)))
    >>> R = (2, ((None, 3), (1, None)))
    >>> [power(W, 2), power(R, 0), entry_at(W, 10 ** 18, 0, 0) == 4 * 10 ** 18 - 18, led_often(W, (0, None), 2)]
    [(2, ((6, -1), (-1, 8))), (2, ((0, None), (None, 0))), True, (6, -1)]
    >>> [best_walk(W, 3, 0, 1), walk_holds(W, 3, 0, 1, (0, 0, 1, 1)), best_walk(R, 2, 0, 1), best_walk(R, 0, 1, 1)]
    [(0, 1, 1, 1), False, None, (1,)]
    >>> [beat(W, 0, 0), growth(W, 0, 0), beat(W, 0, 1), whole_beat(W), beat(R, 0, 1), growth(R, 0, 1), beat((1, ((None,),)), 0, 0)]
    [(18, 1), ((4, 1),), (1, 1), (18, 1), (0, 2), (None, (2, 1)), (1, 1)]
    >>> [first_at_least(W, 0, 0, 100), first_at_least(R, 0, 0, 5), first_at_least(R, 0, 1, 3), lasting(W, (0, 1), (0, 0)), lasting(W, (0, 0), (0, 1))]
    [30, 4, 1, 9, None]
    >>> beat((1, ((6,),)), 0, 0)
    raises TooGreat(5)
''',
    "N5": r'''
    >>> from ridgespans.boards import Board, KeptBoard
    >>> from ridgespans.shells import Shell
    >>> b = Board((2, ((0, 0), (0, 3))))
    >>> [b.add((None, 4)), b.least(), b.news(), b.version, len(b), (0, 3) in b, b.has((2, 4)), b.below((5, 1)), str(b)]
    [1, (2, ((None, 0), (0, 0))), (((0, 3),), ((None, 0),)), 1, 3, True, True, (1, 1), '2\n0 0\n0 3\n. 4']
    >>> [b.drop(1), b.news(), b.shift(1, -1), b.lot, b.lay(0, 1), b.lot, b.least(), b.undo(), b.tidy(), b.lot, b.at(0)]
    [2, ((), ()), 3, (2, ((0, 0), (None, 3))), 4, (2, ((0, 3), (None, 3))), (2, ((None, 0), (0, 3))), 3, 4, (2, ((None, 0), (0, 0))), (2, ((0, 0), (0, 3)))]
    >>> b.batch((("drop", 0), ("drop", 5)))
    raises Rejected(1)
    >>> [b.batch((("shift", 0, 2), ("add", (1, 0)))), b.lot, b.version, b.undo(), b.redo()]
    [5, (2, ((None, 2), (0, 0), (1, 0))), 5, 4, 5]
    >>> k = KeptBoard((2, ((0, 0), (None, 2))))
    >>> [k.add((1, 4)), k.shift(0, 5), k.drop(2), k.lot, k == Board((2, ((5, 5), (None, 2))))]
    [1, 2, 3, (2, ((5, 5), (None, 2))), True]
    >>> k.drop(0)
    raises Changed((0, 0))
    >>> s = Shell()
    >>> [s.say("rows"), s.say("new 2"), s.say("add 0 0"), s.say("add . 4"), s.say("in 2 4"), s.say("below 5 1"), s.say("shifts 5 1"), s.say("least"), s.say("drop 7"), s.say("add 1"), s.say("undo"), s.say("lot")]
    ['no board', 'ok', 'version 1', 'version 2', 'yes', '1 1', '1 -3', '. 0 / 0 0', 'no NoRow', 'what', 'version 1', '0 0']
''',
}


def steps_of(text):
    """Return the list of pairs of a line of code and the answer behind it, None if there is none."""
    lines = [line.strip() for line in text.strip().split("\n")]
    steps = []
    for line in lines:
        if line.startswith(">>> "):
            steps.append((line[4:], None))
        else:
            steps[-1] = (steps[-1][0], line)
    return steps


class Examples(unittest.TestCase):
    def test_all(self):
        for name, text in EXAMPLES.items():
            names = {}
            for code, answer in steps_of(text):
                with self.subTest(name, code=code):
                    self.check_step(code, answer, names)

    def check_step(self, code, answer, names):
        if answer is None:
            exec(code, names)
        elif answer.startswith("raises "):
            with self.assertRaises(ValueError) as caught:
                eval(code, names)
            self.assertEqual(repr(caught.exception), answer[7:])
        else:
            self.assertEqual(repr(eval(code, names)), repr(eval(answer)))


if __name__ == "__main__":
    unittest.main()
