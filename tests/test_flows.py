"""The reckoning behind rows of payments: both ways to it, and what goes round led up and down."""

import unittest
from unittest import mock

from making import source
from soldwhole import flows
from soldwhole.chosen import first_choices
from soldwhole.nets import Net
from soldwhole.rows import greatest_row, least_row
from test_rows import drawn_webs
from webmaking import NAMES, some_amounts, some_clear_web

NOUGHT, ONE = (0, 1), (1, 1)


def stairs(*rows):
    """A WEB whose firms owe the next one dues of all ranks round in a ring: of each row the amounts by rank."""
    names = NAMES[:len(rows)]
    return tuple(
        (name, 6, (("ann", (("shares", ONE),)), *[(names[(place + 1) % len(rows)], (("due", rank, (amount, 1)),))
                                                  for rank, amount in enumerate(row)]))
        for place, (name, row) in enumerate(zip(names, rows))
    )


class Led(unittest.TestCase):
    def check(self, web, amounts, choices):
        """Up, down, and up again: always the same two rows."""
        net, least = Net(web), least_row(web, amounts, choices)
        for led, row in (
            (lambda found, had: flows.lowered(found, flows.raised(found, had)), least),
            (lambda found, had: flows.raised(found, flows.lowered(found, had)), greatest_row(web, amounts, choices)),
        ):
            self.assertEqual(net.row_led(amounts, choices, led)[1], row)
        return least != row

    def test_any(self):
        parted = sum(self.check(web, amounts, choices) for web, amounts, choices in drawn_webs(330, 240))
        self.assertGreater(parted, 10)

    def test_rings_of_many_corners(self):
        for rows in (((1, 2, 3, 4, 5, 6), (6, 5, 4, 3, 2, 1)), ((1, 2), (2, 1), (3,)), ((5,) * 6,) * 6,
                     ((1, 1, 1, 9), (12,), (4, 4, 4), (1, 2, 3, 4, 5), (6, 6))):
            web = stairs(*rows)
            choices = first_choices(web)
            amounts = {name: NOUGHT for name, _, _ in web}
            self.assertTrue(self.check(web, amounts, choices))
            most = greatest_row(web, amounts, choices)
            # What goes round is what the firm that owes least can pay; what comes in besides fills all up.
            self.assertEqual({sum(pay[0] // pay[1] for pay in most[name]) for name in most},
                             {min(map(sum, rows))})
            for name in amounts:
                self.assertFalse(self.check(web, {**amounts, name: ONE}, choices))


class Steps(unittest.TestCase):
    def test_corner_by_corner_comes_to_the_same(self):
        """With a single try at each point all rows are found by the way from below, as they must be where tries fail."""
        for web, amounts, choices in drawn_webs(331, 120):
            rows = [row(web, amounts, choices) for row in (least_row, greatest_row)]
            with mock.patch.object(flows, "MOST_TRIES", 1):
                self.assertEqual([row(web, amounts, choices) for row in (least_row, greatest_row)], rows)

    def test_no_step_is_too_far(self):
        chance = source(332)
        for _ in range(60):
            web = some_clear_web(chance, 4, 5)
            amounts, choices, net = some_amounts(chance, web, 40), first_choices(web), Net(web)
            firms = list(amounts)
            found = [net.payer(name, choices[name])[2] for name in firms]
            row = [amounts[name] for name in firms]
            had = list(row)
            for _ in range(200):
                ahead = flows.had_next(found, row, had)
                self.assertTrue(flows.is_covered(had, ahead))
                if ahead == had:
                    break
                had = flows.next_had(found, row, had)
            self.assertEqual(flows.settled_had(found, row), had)


if __name__ == "__main__":
    unittest.main()
