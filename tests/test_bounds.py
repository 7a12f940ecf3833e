import unittest

from leastmakers import bounds

TOLD = {
    "MAX_HEAD": 5000, "MAX_TURN": 5000, "MAX_FIRST": 200, "MAX_WATCH": 60, "MAX_WATCHES": 8,
    "MAX_WIDEST": 12, "MAX_COIN": 30, "MAX_TIMES": 20, "MAX_COINS": 6, "MAX_PLACES": 6,
    "MAX_STEP": 4, "MAX_ROUND": 6, "MAX_NUMBER": 1000000000000000000, "MAX_MORE": 100000,
    "MAX_TAKE": 8, "MAX_LINES": 8, "MAX_DEEDS": 20,
}


class Bounds(unittest.TestCase):
    def test_each_bound(self):
        for name, value in TOLD.items():
            with self.subTest(name):
                self.assertEqual(getattr(bounds, name), value)
                self.assertIs(type(getattr(bounds, name)), int)


if __name__ == "__main__":
    unittest.main()
