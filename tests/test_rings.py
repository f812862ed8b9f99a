import itertools
import random
import unittest

from lazycols.rings import ring_from

A, B, C, D, E = [("t", name) for name in "abcde"]


def is_ring(leanings, spot, ring):
    ahead = ring[1:] + ring[:1]
    leant = all(later in leanings.get(earlier, []) for earlier, later in zip(ring, ahead))
    return ring[0] == spot and len(set(ring)) == len(ring) and leant


def shortest_length(leanings, spot):
    """By trying all rows of spots, the short ones first; None where none of them is a ring."""
    others = sorted({leant for some in leanings.values() for leant in some} - {spot})
    for length in range(len(others) + 1):
        for rest in itertools.permutations(others, length):
            if is_ring(leanings, spot, [spot] + list(rest)):
                return length + 1
    return None


class RingFrom(unittest.TestCase):
    def rings(self, leanings, spot, expected):
        found = ring_from(leanings, spot)
        self.assertEqual(found, expected)
        self.assertIsInstance(found, (list, type(None)))

    def test_a_spot_that_leans_on_itself_is_a_ring_alone(self):
        self.rings({A: [A]}, A, [A])
        self.rings({A: [B, A], B: [A]}, A, [A])

    def test_two_and_three(self):
        self.rings({A: [B], B: [A]}, A, [A, B])
        self.rings({A: [B], B: [A]}, B, [B, A])
        self.rings({A: [B], B: [C], C: [A]}, B, [B, C, A])

    def test_over_two_tables(self):
        other = ("u", "a")
        self.rings({A: [other], other: [A]}, A, [A, other])
        self.rings({A: [other], other: [A]}, other, [other, A])
        self.rings({A: [other], other: [other]}, A, None)

    def test_none(self):
        self.rings({}, A, None)
        self.rings({A: []}, A, None)
        self.rings({A: [B], B: [C], C: []}, A, None)
        self.rings({B: [B]}, A, None)

    def test_a_spot_that_is_no_key_leans_on_none(self):
        self.rings({A: [B]}, A, None)
        self.rings({A: [B, C], C: [A]}, A, [A, C])
        self.rings({B: [A]}, A, None)

    def test_a_ring_farther_off_is_none_of_its(self):
        self.rings({A: [B], B: [C], C: [B]}, A, None)
        self.rings({A: [B], B: [B, C], C: [C, B]}, A, None)

    def test_the_shortest_of_several(self):
        self.rings({A: [B, D], B: [C], C: [A], D: [A]}, A, [A, D])
        self.rings({A: [B, C], B: [C], C: [D], D: [A]}, A, [A, C, D])
        self.rings({A: [B], B: [C, E], C: [D], D: [A], E: [A]}, A, [A, B, E])

    def test_any_of_those_alike(self):
        self.assertIn(ring_from({A: [B, C], B: [A], C: [A]}, A), [[A, B], [A, C]])

    def test_leant_on_twice(self):
        self.rings({A: [B, B, C], B: [C, C], C: [C]}, A, None)
        self.rings({A: [B, B], B: [B, A, A]}, A, [A, B])

    def test_all_columns_of_four_tables_in_one_ring(self):
        spots = [(table, column) for table in "tuvw" for column in "abcdefgh"]
        leanings = {earlier: [later] for earlier, later in zip(spots, spots[1:] + spots[:1])}
        self.rings(leanings, spots[5], spots[5:] + spots[:5])

    def test_against_trying_all(self):
        chance = random.Random(10)
        for turn in range(400):
            spots = [A, B, C, D, ("u", "a")][:chance.randint(1, 5)]
            leanings = {
                spot: chance.choices(spots, k=chance.randint(0, 2)) for spot in spots if chance.random() < 0.9
            }
            for spot in spots:
                found = ring_from(leanings, spot)
                length = shortest_length(leanings, spot)
                with self.subTest(leanings=leanings, spot=spot):
                    self.assertEqual(found if found is None else len(found), length)
                    self.assertTrue(found is None or is_ring(leanings, spot, found))

    def test_nothing_handed_in_is_changed_and_the_ring_is_new(self):
        leanings = {A: [B], B: [A, A], C: [D]}
        ring_from(leanings, A).clear()
        ring_from(leanings, C)
        self.assertEqual(leanings, {A: [B], B: [A, A], C: [D]})
        self.assertEqual(ring_from(leanings, A), [A, B])


if __name__ == "__main__":
    unittest.main()
