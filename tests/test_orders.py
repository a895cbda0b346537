"""[2] to [4], [40]: orders of ways."""

import unittest

from bowkinds.bows import direction_of
from bowkinds.orders import is_order, orders_of
from helpers import DIRECTIONS, REVERSES, WAY_OF, WAYS, odd_values, small_bows, subsets


def followed():
    """Which directions lie from x to z, by all bows with six places."""
    bows = small_bows(6)
    told = {(one, other): direction_of(one, other) for one in bows for other in bows}
    return {(told[x, y], told[y, z], told[x, z]) for x in bows for y in bows for z in bows}


FOLLOWED = followed()


def orders_by_hand(ways):
    """All choices of one direction of each way that are closed."""
    choices = [[]]
    for way in sorted({*ways} - {"same"}):
        choices = [choice + [told] for choice in choices for told in DIRECTIONS if WAY_OF[told] == way]
    return sorted(sorted(choice) for choice in choices if closed(choice))


def closed(choice):
    return all(third in choice for first, second, third in FOLLOWED if first in choice and second in choice)


class OrdersTest(unittest.TestCase):
    def test_all_sets_of_ways(self):
        for ways in subsets(WAYS):
            orders = orders_by_hand(ways)
            self.assertEqual(orders_of(ways), orders)
            for order in orders:
                self.assertIs(is_order(ways, order), True)
                back = sorted(REVERSES[direction] for direction in order)
                self.assertIn(back, orders)

    def test_all_lists_of_few_directions(self):
        lists = [some for some in subsets(DIRECTIONS) if len(some) < 4]
        for ways in ([], ["same"], ["apart"], ["apart", "begun"], ["apart", "chained", "crossing"], ["within"]):
            orders = orders_by_hand(ways)
            for some in lists:
                self.assertIs(is_order(ways, some), some in orders)

    def test_order_and_number_of_ways_mean_nothing(self):
        one, other = ["begun", "apart"], ("apart", "begun", "begun", "same", "apart")
        self.assertEqual(orders_of(one), orders_of(list(other)))
        self.assertEqual(orders_of(["same"]), [[]])
        self.assertEqual(orders_of([]), [[]])
        for order in orders_of(one):
            self.assertIs(is_order(list(other), order), True)
        self.assertEqual(one, ["begun", "apart"])

    def test_no_way_but_same(self):
        for ways in ([], ["same"], ["same", "same"]):
            self.assertIs(is_order(ways, []), True)
            for thing in [(), ["same"], ["before"], [[]], *odd_values()]:
                self.assertIs(is_order(ways, thing), False)

    def test_wrong_values(self):
        self.assertIs(is_order(["apart", "begun"], ["before", "starts"]), True)
        wrong = [
            ["starts", "before"], ("before", "starts"), ["before"], ["starts"], ["before", "started"],
            ["before", "before"], ["before", "same", "starts"], ["apart", "begun"], "before", [],
            ["before", "starts", None], [["before", "starts"]], {"before": "starts"}, ["before", True],
            ["after", "before"], ["before"] * 9000, DIRECTIONS, *odd_values(),
        ]
        for thing in wrong:
            self.assertIs(is_order(["apart", "begun"], thing), False)

    def test_what_is_told_is_new(self):
        told = orders_of(["apart"])
        self.assertEqual(told, [["after"], ["before"]])
        told[0].append("x")
        told.pop()
        self.assertEqual(orders_of(["apart"]), [["after"], ["before"]])

    def test_examples_of_the_document(self):
        told = [orders_of(["apart", "begun"]), orders_of(["crossing"]), is_order(["apart", "same"], ["before"])]
        self.assertEqual(told, [[["after", "started"], ["before", "starts"]], [], True])


if __name__ == "__main__":
    unittest.main()
