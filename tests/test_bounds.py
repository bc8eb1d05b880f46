import unittest

from ridgespans import bounds

VALUES = {
    "MAX_NUMBER": 1000000000000000000000000000000, "MAX_PLACES": 4, "MAX_LOT": 40,
    "MAX_LINES": 6, "MAX_FEW": 8, "MAX_CUTS": 6, "MAX_COMMON": 3, "MAX_EQUAL": 4,
    "MAX_TIGHT": 3, "MAX_PAPER": 60, "MAX_SLOPE": 20, "MAX_SIDE": 3, "MAX_TIE": 20,
    "MAX_POWER": 1000000000000000000, "MAX_WALK": 200, "MAX_BEAT": 5, "MAX_EDITS": 40,
    "BATCH": 12,
}


class Bounds(unittest.TestCase):
    def test_each_has_its_value(self):
        for name, value in VALUES.items():
            with self.subTest(name):
                self.assertIs(type(getattr(bounds, name)), int)
                self.assertEqual(getattr(bounds, name), value)


if __name__ == "__main__":
    unittest.main()
