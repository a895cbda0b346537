"""[2], [23]: reverses, ways along, and what follows from directions."""

import unittest

from bowkinds.bows import direction_of
from bowkinds.following import directions_of, follow, follow_all, reverse_of, way_along
from helpers import DIRECTIONS, PAIRS, REVERSES, WAY_OF, WAYS, small_bows


def followers():
    """What lies from x to z for all bows with six places, which are enough for three bows."""
    bows = small_bows(6)
    told = {(one, other): direction_of(one, other) for one in bows for other in bows}
    found = {(first, second): set() for first in DIRECTIONS for second in DIRECTIONS}
    for x in bows:
        for y in bows:
            for z in bows:
                found[told[x, y], told[y, z]].add(told[x, z])
    return {pair: sorted(third) for pair, third in found.items()}


class FollowingTest(unittest.TestCase):
    def test_reverses_and_ways(self):
        for one, other, way in PAIRS:
            self.assertEqual([reverse_of(one), reverse_of(other)], [other, one])
            self.assertEqual([way_along(one), way_along(other)], [way, way])
            self.assertEqual(directions_of(way), sorted({one, other}))
        self.assertEqual(reverse_of("same"), "same")
        self.assertEqual(directions_of("same"), ["same"])

    def test_each_direction_is_of_one_way(self):
        self.assertEqual(sorted(sum([directions_of(way) for way in WAYS], [])), DIRECTIONS)
        for direction in DIRECTIONS:
            self.assertEqual(way_along(direction), WAY_OF[direction])

    def test_all_pairs_of_directions(self):
        for (first, second), third in followers().items():
            self.assertEqual(follow(first, second), third, (first, second))

    def test_some_pairs_by_hand(self):
        self.assertEqual(follow("before", "before"), ["before"])
        self.assertEqual(follow("meets", "meets"), ["before"])
        self.assertEqual(follow("before", "after"), DIRECTIONS)
        self.assertEqual(follow("crosses", "crosses"), ["before", "crosses", "meets"])
        self.assertEqual(follow("starts", "finishes"), ["inside"])
        self.assertEqual(follow("meets", "met"), ["finished", "finishes", "same"])

    def test_same_changes_nothing_and_reverses_follow_backwards(self):
        for first in DIRECTIONS:
            self.assertEqual(follow("same", first), [first])
            self.assertEqual(follow(first, "same"), [first])
            for second in DIRECTIONS:
                back = follow(REVERSES[second], REVERSES[first])
                self.assertEqual(sorted(REVERSES[third] for third in back), follow(first, second))

    def test_follow_all(self):
        self.assertEqual(follow_all([]), ["same"])
        for first in DIRECTIONS:
            self.assertEqual(follow_all([first]), [first])
            for second in DIRECTIONS:
                self.assertEqual(follow_all([first, second]), follow(first, second))

    def test_follow_all_of_three_bows_more(self):
        some = ["before", "meets", "crossed", "started", "finishes", "inside", "holds"]
        bows = small_bows(7)
        told = {(one, other): direction_of(one, other) for one in bows for other in bows}
        for first in some:
            for second in some:
                for third in some:
                    stood = {(w, w) for w in bows}
                    for step in (first, second, third):
                        stood = {(w, y) for w, x in stood for y in bows if told[x, y] == step}
                    found = {told[pair] for pair in stood}
                    self.assertLessEqual(found, set(follow_all([first, second, third])))
                    both = [follow(fourth, third) for fourth in follow(first, second)]
                    self.assertEqual(follow_all([first, second, third]), sorted(set(sum(both, []))))

    def test_follow_all_of_twenty(self):
        self.assertEqual(follow_all(["crosses"] * 20), ["before", "crosses", "meets"])
        self.assertEqual(follow_all(["meets"] * 20), ["before"])
        self.assertEqual(follow_all(["inside"] * 20), ["inside"])
        self.assertEqual(follow_all(["before", "after"] * 10), DIRECTIONS)
        self.assertEqual(follow_all(["same"] * 20), ["same"])

    def test_what_is_told_is_new(self):
        for asked in (lambda: follow("before", "after"), lambda: follow_all([]), lambda: directions_of("same"),
                      lambda: follow_all(["before"]), lambda: follow("same", "same")):
            told = asked()
            kept = list(told)
            told.append("x")
            self.assertEqual(asked(), kept)

    def test_the_argument_stays(self):
        given = ["meets", "before", "meets"]
        follow_all(given)
        self.assertEqual(given, ["meets", "before", "meets"])


if __name__ == "__main__":
    unittest.main()
