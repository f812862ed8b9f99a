import unittest

from lazycols import errors

NAMES = [
    "NoName", "NoValue", "NoTable", "NoColumn", "NoPlace", "NoSize", "NoText", "NoRow", "NoBack", "TooMuch",
    "Ruled", "Ring", "Nobody", "Several",
]


class Errors(unittest.TestCase):
    def test_colserror_stands_right_under_valueerror(self):
        self.assertEqual(errors.ColsError.__bases__, (ValueError,))

    def test_each_refusal_stands_right_under_colserror(self):
        self.assertEqual(len(set(NAMES)), 14)
        for name in NAMES:
            with self.subTest(name=name):
                self.assertEqual(getattr(errors, name).__bases__, (errors.ColsError,))

    def test_no_two_refusals_are_one(self):
        self.assertEqual(len({getattr(errors, name) for name in NAMES}), 14)

    def test_each_is_raised_and_taken_as_colserror(self):
        for name in NAMES:
            with self.subTest(name=name):
                with self.assertRaises(errors.ColsError):
                    raise getattr(errors, name)([])

    def test_ring_has_its_ring(self):
        spots = [("t", "a"), ("t", "b")]
        found = errors.Ring(spots)
        self.assertEqual(found.ring, [("t", "a"), ("t", "b")])
        self.assertIsInstance(found.ring, list)

    def test_ring_keeps_no_list_of_the_asker(self):
        spots = [("t", "a")]
        found = errors.Ring(spots)
        spots.append(("t", "b"))
        self.assertEqual(found.ring, [("t", "a")])
        found.ring.clear()
        self.assertEqual(spots, [("t", "a"), ("t", "b")])
        self.assertFalse([part for part in found.args if isinstance(part, list)])


if __name__ == "__main__":
    unittest.main()
