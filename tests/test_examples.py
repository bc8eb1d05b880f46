"""The examples of the document, with the answers that it shows."""

import unittest

# Copied letter by letter from the document: a line behind ">>> " and, where it
# is an expression, the answer or the error on the next line.
EXAMPLES = {
    "A7": r'''
    >>> from ridgespans.rows import begun, is_higher, is_row, is_side, laid, led, lot_error, shifted, table_error
    >>> from ridgespans.texts import lot_text, parse_lot
    >>> L = (3, ((0, 2, None), (0, 0, 0), (None, 1, 3)))
    >>> T = (3, ((0, None, 2), (None, None, None), (1, 1, 1)))
    >>> [lot_error(L), lot_error((3, ((0, 2), (None, None, None)))), lot_error((2, [(0, 0)])), table_error(T), is_row(2, (None, None)), is_side(2, (None, None)), is_row(2, (True, 0))]
    [None, (0, 'row'), (None, 'rows'), None, False, True, False]
    >>> [shifted((0, None), 3), shifted((0, None), None), laid((0, 2, None), (1, None, None)), begun((None, 4, 1)), is_higher((0, None), (0, 5)), is_higher((0, 0), (0, None)), led(T, (1, None, 0))]
    [(3, None), (None, None), (1, 2, None), (None, 0, -3), False, True, (2, None, 2)]
    >>> [lot_text(L), parse_lot("2\n0 .\n-1 7") == (2, ((0, None), (-1, 7))), parse_lot("1")]
    ['3\n0 2 .\n0 0 0\n. 1 3', True, (1, ())]
    >>> parse_lot("2\n0 .\n. .")
    raises BadText(2)
''',
}


def steps_of(text):
    """Return the list of pairs of a line of code and the answer behind it, None if there is none."""
    lines = [line.strip() for line in text.strip().split("\n")]
    steps = []
    for line in lines:
        if line.startswith(">>> "):
            steps.append((line[4:], None))
        else:
            steps[-1] = (steps[-1][0], line)
    return steps


class Examples(unittest.TestCase):
    def test_all(self):
        for name, text in EXAMPLES.items():
            names = {}
            for code, answer in steps_of(text):
                with self.subTest(name, code=code):
                    self.check_step(code, answer, names)

    def check_step(self, code, answer, names):
        if answer is None:
            exec(code, names)
        elif answer.startswith("raises "):
            with self.assertRaises(ValueError) as caught:
                eval(code, names)
            self.assertEqual(repr(caught.exception), answer[7:])
        else:
            self.assertEqual(repr(eval(code, names)), repr(eval(answer)))


if __name__ == "__main__":
    unittest.main()
