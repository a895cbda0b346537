"""[2], [9], [22]: directions, ways, bows turned and moved."""

import unittest

from bowkinds.bows import direction_of, moved_bow, turned_bow, way_of
from helpers import DIRECTIONS, FAR, REVERSES, WAY_OF, holds_of, small_bows

EXAMPLES = {
    "before": ((0, 1), (2, 3)), "after": ((2, 3), (0, 1)),
    "meets": ((0, 1), (1, 3)), "met": ((1, 3), (0, 1)),
    "crosses": ((0, 2), (1, 3)), "crossed": ((1, 3), (0, 2)),
    "starts": ((0, 1), (0, 2)), "started": ((0, 2), (0, 1)),
    "finishes": ((1, 2), (0, 2)), "finished": ((0, 2), (1, 2)),
    "inside": ((1, 2), (0, 3)), "holds": ((0, 3), (1, 2)),
    "same": ((4, 5), (4, 5)),
}


class BowsTest(unittest.TestCase):
    def test_each_of_the_thirteen_directions(self):
        self.assertEqual(sorted(EXAMPLES), DIRECTIONS)
        for direction, (one, other) in EXAMPLES.items():
            self.assertEqual(direction_of(one, other), direction)
            self.assertEqual(way_of(one, other), WAY_OF[direction])

    def test_the_words_of_the_document(self):
        found = set()
        for one in small_bows(6):
            for other in small_bows(6):
                direction = direction_of(one, other)
                held = [thing for thing in DIRECTIONS if holds_of(thing, one, other)]
                self.assertEqual(held, [direction])
                self.assertEqual(direction_of(other, one), REVERSES[direction])
                self.assertEqual(way_of(one, other), WAY_OF[direction])
                self.assertEqual(way_of(other, one), WAY_OF[direction])
                found.add(direction)
        self.assertEqual(sorted(found), DIRECTIONS)

    def test_places_at_their_bounds(self):
        self.assertEqual(direction_of((-FAR, FAR), (-FAR, FAR)), "same")
        self.assertEqual(direction_of((-FAR, FAR), (-FAR + 1, FAR - 1)), "holds")
        self.assertEqual(direction_of((-FAR, FAR - 1), (-FAR, FAR)), "starts")
        self.assertEqual(direction_of((-FAR, 0), (0, FAR)), "meets")
        self.assertEqual(direction_of((-FAR, 0), (1, FAR)), "before")
        self.assertEqual(way_of((-FAR, 1), (0, FAR)), "crossing")

    def test_turned(self):
        self.assertEqual(turned_bow((0, 20)), (-20, 0))
        self.assertEqual(turned_bow((-FAR, 3)), (-3, FAR))
        for bow in small_bows(5):
            self.assertEqual(turned_bow(turned_bow(bow)), bow)

    def test_turning_exchanges_begun_and_ended_alone(self):
        changed = {"begun": "ended", "ended": "begun"}
        for one in small_bows(6):
            for other in small_bows(6):
                way = way_of(one, other)
                turned = way_of(turned_bow(one), turned_bow(other))
                self.assertEqual(turned, changed.get(way, way))

    def test_moved(self):
        self.assertEqual(moved_bow((0, 2), 5), (5, 7))
        self.assertEqual(moved_bow((0, 2), -5), (-5, -3))
        self.assertEqual(moved_bow((0, 2), 0), (0, 2))
        self.assertEqual(moved_bow((-FAR, -FAR + 1), 2 * FAR - 1), (FAR - 1, FAR))

    def test_ways_hang_on_the_order_of_places_alone(self):
        for one in small_bows(5):
            for other in small_bows(5):
                far = [tuple(place ** 3 * 10 ** 20 - FAR for place in bow) for bow in (one, other)]
                self.assertEqual(direction_of(*far), direction_of(one, other))
                moved = direction_of(moved_bow(one, -7), moved_bow(other, -7))
                self.assertEqual(moved, direction_of(one, other))


if __name__ == "__main__":
    unittest.main()
