"""What all functions that are given AMOUNTS, from stage 8 on, raise of a WEB that is not CLEAR."""

from making import source
from soldwhole.errors import Circle, NotFounded
from soldwhole.webs import circle_of, is_circle
from webmaking import some_amounts, some_choices, some_rings


def unfounded(firm):
    """The FIRM with a sum in the stead of each option that is shares alone."""
    name, ranks, holdings = firm
    return (name, ranks, tuple(
        (holder, tuple(("sum", (option, ("none",))) if option[0] == "shares" else option for option in options))
        for holder, options in holdings
    ))


def check_unclear(test, call):
    """call(web, amounts, choices) raises NotFounded with the least name, or else Circle."""
    chance = source(284)
    circles = 0
    for _ in range(60):
        web = some_rings(chance)
        amounts, choices = some_amounts(chance, web), some_choices(chance, web)
        names = circle_of(web)
        if names is not None:
            circles += 1
            with test.assertRaises(Circle) as caught:
                call(web, amounts, choices)
            test.assertEqual(caught.exception.names, names)
            test.assertTrue(is_circle(web, caught.exception.names))
        lost = sorted(chance.sample([firm[0] for firm in web], 2))
        web = tuple(unfounded(firm) if firm[0] in lost else firm for firm in web)
        with test.assertRaises(NotFounded) as caught:
            call(web, amounts, choices)
        test.assertEqual(caught.exception.name, lost[0])
    test.assertGreater(circles, 20)
