"""[N5]: shells, and what they say to lines of every kind."""

import copy
import unittest

from brute import Dice
from ridgespans.boards import Board
from ridgespans.errors import RidgeError
from ridgespans.shells import Shell
from values import ANY_VALUES

MOST = 10 ** 30
WORDS = ["add", "drop", "put", "shift", "lay", "tidy", "undo", "redo", "lot", "least", "rows", "in", "below", "shifts"]

# A right line for each word, for a board of two places.
RIGHT = {"add": "add 0 .", "drop": "drop 0", "put": "put 0 1 1", "shift": "shift 0 -1", "lay": "lay 0 1",
         "tidy": "tidy", "undo": "undo", "redo": "redo", "lot": "lot", "least": "least", "rows": "rows", "in": "in 0 0",
         "below": "below . 0", "shifts": "shifts 0 0"}


def shell_with(*lines):
    """A shell with a board of two places behind these lines."""
    shell = Shell()
    for line in ("new 2", *lines):
        shell.say(line)
    return shell


def told(row):
    return " ".join("." if number is None else str(number) for number in row)


class Words(unittest.TestCase):
    def check(self, shell, *steps):
        for line, answer in steps:
            self.assertEqual(shell.say(line), answer, line)

    def test_new_boards(self):
        for places in "1234":
            shell = Shell()
            self.check(shell, (f"new {places}", "ok"), ("rows", "0"), ("lot", "none"), ("least", "none"),
                       ("undo", "no NothingToUndo"), ("add" + int(places) * " 0", "version 1"),
                       ("add" + int(places) * " 0" + " 0", "what"), (f"new {places}", "ok"), ("rows", "0"),
                       ("redo", "no NothingToRedo"))

    def test_no_new_board(self):
        for shell in (Shell(), shell_with("add 0 3")):
            for line in ("new", "new 0", "new 5", "new -1", "new .", "new 02", "new +2", "new 2 2", "new two", "new -0",
                         "new 10", "New 2", "new2", "new 2\n", "new 2\t", "new " + "1" * 32, "new 1.0"):
                self.assertEqual(shell.say(line), "what", line)
        self.assertEqual(shell.say("lot"), "0 3")

    def test_a_new_board_takes_the_place_of_the_old_one(self):
        self.check(shell_with("add 0 3", "add 1 1"), ("new 3", "ok"), ("undo", "no NothingToUndo"), ("add 0 0", "what"),
                   ("add 0 0 .", "version 1"), ("lot", "0 0 ."))

    def test_edits(self):
        self.check(shell_with(), ("add 0 0", "version 1"), ("add . 4", "version 2"), ("put 0 -1 3", "version 3"),
                   ("lot", "-1 3 / . 4"), ("shift 0 -2", "version 4"), ("lot", "-3 1 / . 4"), ("lay 0 1", "version 5"),
                   ("lot", "-3 4 / . 4"), ("tidy", "version 6"), ("lot", ". 0 / 0 7"), ("drop 0", "version 7"),
                   ("lot", "0 7"), ("undo", "version 6"), ("undo", "version 5"), ("redo", "version 6"),
                   ("lot", ". 0 / 0 7"), ("rows", "2"), ("lay 1 1", "version 7"), ("redo", "no NothingToRedo"))

    def test_adding_rows(self):
        for places in (1, 2, 3, 4):
            shell, rows = Shell(), []
            self.check(shell, ("add" + " 0" * places, "no board"), (f"new {places}", "ok"))
            for row in (("7",) * places, ("-3", ".", "0", "12")[:places], (".", ".", ".", "5")[4 - places:],
                        (str(MOST), str(-MOST), ".", "1")[:places]):
                line = "add " + " ".join(row)
                rows.append(" ".join(row))
                self.check(shell, (line + " 0", "what"), (line + " .", "what"), (line.rsplit(" ", 1)[0], "what"),
                           ("add" + " ." * places, "no NotRow"), (line, f"version {len(rows)}"),
                           ("rows", str(len(rows))), ("lot", " / ".join(rows)))
            self.check(shell, ("add", "what"), ("add ", "what"), ("add" + " ." * (places + 1), "what"),
                       ("add" + " ." * (places - 1), "what"), ("add" + " 0" * (places - 1) + " x", "what"),
                       ("lot", " / ".join(rows)))

    def test_adding_behind_forty_rows_and_forty_edits(self):
        shell = shell_with(*["add . 1"] * 40)
        for line, answer in (("add . .", "no NotRow"), ("add 0", "what"), ("add 0 0 0", "what"),
                             ("add 0 0", "no TooMany")):
            self.check(shell, (line, answer), ("rows", "40"), ("undo", "version 39"), ("redo", "version 40"))
        shell = shell_with("add 0 0", *["shift 0 1"] * 39)
        for line, answer in (("add . .", "no NotRow"), ("add 0", "what"), ("add 0 0 0", "what"),
                             ("add 0 0", "no TooManyEdits")):
            self.check(shell, (line, answer), ("lot", "39 39"), ("undo", "version 39"), ("redo", "version 40"))
        self.check(shell, ("undo", "version 39"), ("add . 1", "version 40"), ("lot", "38 38 / . 1"))

    def test_what_is_asked(self):
        self.check(shell_with("add 0 0", "add 0 3", "add 2 4"), ("lot", "0 0 / 0 3 / 2 4"), ("least", "0 0 / 0 3"),
                   ("rows", "3"), ("in 5 7", "yes"), ("in 5 9", "no"), ("in . 0", "no"), ("below 5 9", "5 8"),
                   ("below 5 .", "none"), ("below . 0", "none"), ("shifts 5 9", "5 5 3"), ("shifts . 0", ". . ."),
                   ("shifts -5 -9", "-9 -12 -13"))
        self.check(shell_with("add . 0"), ("below 5 5", ". 5"), ("shifts 5 5", "5"), ("shifts 5 .", "."),
                   ("in . 7", "yes"))

    def test_boards_without_rows(self):
        self.check(shell_with(), ("lot", "none"), ("least", "none"), ("rows", "0"), ("in 0 0", "no"),
                   ("below 0 0", "none"), ("shifts 0 0", "none"), ("shifts . .", "no NotRow"), ("tidy", "version 1"),
                   ("lot", "none"))

    def test_errors(self):
        self.check(shell_with("add 0 0"), ("drop 1", "no NoRow"), ("drop 99", "no NoRow"), ("put 1 0 0", "no NoRow"),
                   ("put 1 . .", "no NoRow"), ("put 0 . .", "no NotRow"), ("add . .", "no NotRow"),
                   ("in . .", "no NotRow"), ("below . .", "no NotRow"), ("shifts . .", "no NotRow"),
                   ("shift 1 0", "no NoRow"), ("lay 0 1", "no NoRow"), ("lay 1 0", "no NoRow"),
                   ("redo", "no NothingToRedo"), ("undo", "version 0"), ("undo", "no NothingToUndo"), ("lot", "none"))

    def test_bounds(self):
        beyond = str(MOST + 1)
        self.check(shell_with(f"add {MOST} -{MOST}"), ("lot", f"{MOST} -{MOST}"), (f"add 0 {beyond}", "no NotRow"),
                   (f"add -{beyond} 0", "no NotRow"), (f"put 0 {beyond} 0", "no NotRow"),
                   (f"in {beyond} 0", "no NotRow"), (f"shift 0 {beyond}", "no BadNumber"),
                   (f"shift 0 -{beyond}", "no BadNumber"), ("shift 0 1", "no Beyond"),
                   (f"shift 0 {MOST}", "no Beyond"), ("tidy", "no Beyond"), (f"drop {beyond}", "no NoRow"),
                   ("least", f"0 -{2 * MOST}"), (f"shifts -{MOST} {MOST}", f"-{2 * MOST}"))

    def test_forty_rows_and_forty_edits(self):
        shell = shell_with(*["add 0 0"] * 40)
        self.check(shell, ("rows", "40"), ("add 0 0", "no TooMany"), ("drop 0", "no TooManyEdits"),
                   ("undo", "version 39"), ("drop 40", "no NoRow"), ("drop 38", "version 40"),
                   ("drop 0", "no TooManyEdits"))

    def test_figures(self):
        nines, more = "9" * 31, "1" + "0" * 31
        for number in (nines, "-" + nines):
            self.check(shell_with("add 0 0"), (f"add 0 {number}", "no NotRow"), (f"shift 0 {number}", "no BadNumber"))
        for number in (more, "-" + more, "0" * 32, "1" * 3000):
            self.check(shell_with("add 0 0"), (f"add 0 {number}", "what"), (f"shift 0 {number}", "what"),
                       (f"drop {number}", "what"), (f"lay 0 {number}", "what"), (f"in {number} 0", "what"))
        self.check(shell_with("add 0 0"), (f"drop {nines}", "no NoRow"), (f"lay {nines} 0", "no NoRow"))

    def test_words_that_are_no_numbers(self):
        for word in ("-0", "00", "01", "-01", "+1", "--1", "-", "", "1-", "1.", ".1", "..", "x", "1e3", "1_0", "0x1",
                     "\t1",
                     "1\n", "\u0661", "\u00b2", "None", "none", "-.", "1,", "(1)"):
            shell = shell_with("add 0 0", "add 1 1")
            self.check(shell, (f"add 0 {word}", "what"), (f"add {word} 0", "what"), (f"drop {word}", "what"),
                       (f"put {word} 0 0", "what"), (f"put 0 0 {word}", "what"), (f"shift {word} 0", "what"),
                       (f"shift 0 {word}", "what"), (f"lay 0 {word}", "what"), (f"lay {word} 0", "what"),
                       (f"in {word} 0", "what"), (f"below 0 {word}", "what"), (f"shifts {word} 0", "what"),
                       ("lot", "0 0 / 1 1"))

    def test_where_a_point_or_what_is_below_0_may_not_stand(self):
        shell = shell_with("add 0 0", "add 1 1")
        self.check(shell, ("drop .", "what"), ("drop -1", "what"), ("put . 0 0", "what"), ("put -1 0 0", "what"),
                   ("shift . 0", "what"), ("shift -1 0", "what"), ("shift 0 .", "what"), ("lay . 0", "what"),
                   ("lay 0 .", "what"), ("lay -1 0", "what"), ("lay 0 -1", "what"), ("shift 0 -1", "version 3"),
                   ("put 0 . -1", "version 4"), ("put 0 -1 .", "version 5"), ("drop 0", "version 6"))

    def test_a_word_more_and_a_word_less(self):
        for word, line in RIGHT.items():
            for odd in (line + " 0", line + " .", line + " x", line + " " + word):
                shell = shell_with("add 0 0", "add 1 1")
                self.assertEqual(shell.say(odd), "what", odd)
                self.assertEqual(shell.say("lot"), "0 0 / 1 1")
            if " " in line:
                self.assertEqual(shell_with("add 0 0", "add 1 1").say(line.rsplit(" ", 1)[0]), "what")
                self.assertEqual(shell_with("add 0 0", "add 1 1").say(word), "what")
            self.assertNotIn(shell_with("add 0 0", "add 1 1", "undo").say(line), ("what", "no board"))

    def test_blanks(self):
        for shell in (shell_with("add 0 0", "add 1 1", "undo"), Shell()):
            for line in [*RIGHT.values(), "new 2"]:
                for odd in (" " + line, line + " ", line.replace(" ", "  ") if " " in line else "  ", line + "  ",
                            "  " + line, " \n " + line):
                    self.assertEqual(shell.say(odd), "what", repr(odd))
            for odd in ("", " ", "  ", "x", "\n", "lot\n", "\tlot", "lot\t", "lot lot ", "LOT", "Rows", "news", "ok",
                        "version", "batch", "copy", "at 0", "cut 0 0", "has 0 0", "__init__", "say lot"):
                self.assertEqual(shell.say(odd), "what", repr(odd))

    def test_ahead_of_the_first_new(self):
        shell = Shell()
        for word in WORDS:
            for line in (word, RIGHT[word], word + " x", word + " 0 0 0 0 0", word + " -0", word + " \t"):
                self.assertEqual(shell.say(line), "no board", line)
        for line in ("new", "new 5", "new x", "x", "lots", "lot\n", "", " lot", "lot ", "add  0 0", "newer 2"):
            self.assertEqual(shell.say(line), "what", line)
        self.check(shell, ("rows", "no board"), ("new 9", "what"), ("rows", "no board"), ("new 1", "ok"), ("rows", "0"),
                   ("add x", "what"), ("new 9", "what"), ("rows", "0"))

    def test_what_is_no_string(self):
        for shell in (Shell(), shell_with("add 0 0")):
            for value in [*ANY_VALUES, ["lot"], ("lot",), {"lot": 1}, [], Shell(), Board((1, ()))]:
                if not isinstance(value, str):
                    ahead = copy.copy(value)
                    self.assertEqual(shell.say(value), "what")
                    self.assertTrue(value == ahead or not isinstance(value, (list, dict, tuple)))
            for value in ANY_VALUES:
                if isinstance(value, str):
                    self.assertEqual(shell.say(value), "what")

    def test_long_lines(self):
        for shell in (Shell(), shell_with()):
            for line in ("x" * 3000, "0 " * 1500, "lot" * 1000, "x " * 1499 + "x"):
                self.assertEqual(shell.say(line), "what")
        self.assertEqual(shell_with().say("add" + " 0" * 1400), "what")
        self.assertEqual(Shell().say("add" + " 0" * 1400), "no board")

    def test_beside_a_board(self):
        for seed in range(30):
            dice = Dice(seed)
            shell, board = shell_with(), Board((2, ()))
            for _ in range(60):
                line, call = self.step(dice, board)
                try:
                    answer = call()
                except RidgeError as error:
                    answer = f"no {type(error).__name__}"
                self.assertEqual(shell.say(line), answer, line)
            self.assertEqual(shell.say("lot"), " / ".join(map(told, board)) or "none")

    def step(self, dice, board):
        row, index, number = dice.side(2, 4), dice.random.randint(0, len(board)), dice.random.randint(-4, 4)
        word = dice.random.choice(WORDS)
        edits = {"add": (row,), "put": (index, row), "drop": (index,), "shift": (index, number),
                 "lay": (index, index // 2), "tidy": (), "undo": (), "redo": ()}
        if word in edits:
            items = edits[word]
            parts = [told(item) if isinstance(item, tuple) else str(item) for item in items]
            return " ".join([word, *parts]), lambda: f"version {getattr(board, word)(*items)}"
        answers = {"lot": lambda: " / ".join(map(told, board)) or "none",
                   "least": lambda: " / ".join(map(told, board.least()[1])) or "none", "rows": lambda: str(len(board)),
                   "in": lambda: "yes" if board.has(row) else "no",
                   "below": lambda: told(board.below(row) or ()) or "none",
                   "shifts": lambda: told(board.shifts(row)) or "none"}
        return f"{word} {told(row)}" if word in ("in", "below", "shifts") else word, answers[word]


class Shells(unittest.TestCase):
    def test_each_by_itself(self):
        one, other = Shell(), Shell()
        self.assertEqual([one.say("new 2"), other.say("rows"), one.say("add 0 0"), other.say("new 2"),
                          other.say("rows")],
                         ["ok", "no board", "version 1", "ok", "0"])

    def test_by_name(self):
        self.assertEqual([Shell().say(line="rows"), Shell().say(line="new 3")], ["no board", "ok"])
        self.assertIn("say", vars(Shell))
        self.assertEqual(Shell.__module__, "ridgespans.shells")


if __name__ == "__main__":
    unittest.main()
