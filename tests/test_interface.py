"""The names of the interface: each is defined in its file, with its arguments, in their order."""

import importlib
import inspect
import unittest

from soldwhole import errors

FUNCTIONS = {
    "fractions": "reduced(n, d); added(one, other); lessened(one, other); times(one, other); over(one, other); "
    "least_of(fractions); greatest_of(fractions); total(fractions); compared(one, other); fraction_text(one); "
    "fraction_in(text)",
    "forms": "is_integer(thing); is_fraction(thing); is_amount(thing); is_name(thing); is_curve(thing); "
    "is_claim(ranks, thing); is_holding(ranks, thing); is_firm(thing); is_web(thing); are_amounts(web, thing); "
    "are_choices(web, thing); are_payments(web, thing); firm_of(web, name); held_by(web, holder); "
    "choosing_of(web, person)",
    "curves": "curve(corners, slope); nothing(); added_up(curves); greatest(curves); capped(curve, amount); "
    "scaled(curve, factor); corners_many(curve); levels_of(curves); crossings(one, other); is_bounded(curve); "
    "most_of(curve); pay_at(curve, level); rises_at(curve, level); rose_to(curve, level)",
    "curvebacks": "level_for(curve, pay); first_over(one, other); same_up_to(one, other); by_pay(curve, other); "
    "is_under(one, other)",
    "claims": "curve_of(ranks, claim); options_curve(ranks, options); scaled_claim(claim, factor); tidied(claim); "
    "has_due(claim); ranks_needed(claim); claims_in(claim)",
    "papertexts": "show_claim(claim); show_web(web); read_claim(ranks, text); read_web(text)",
    "deeds": "is_deed(thing); are_entries(thing); deed_text(deed); deed_of(text)",
    "ledgers": "order_of(entries); days_of(entries); settled(entries); first_wrong(entries); web_of(entries, day); "
    "counts_of(entries, day); waiting(entries, day)",
    "waterfalls": "claim_now(ranks, claim, level); paper_now(ranks, paper, level); paid_out(ranks, papers, amount); "
    "steps(ranks, papers, amount); level_reached(ranks, papers, amount); left_over(ranks, papers, amount)",
    "onefirm": "level_of(curves, amount); amount_for(curves, index, pay); payments(curves, amount); by_amount(curves); "
    "order_of(curves)",
    "levelpapers": "level_paper(curves, amount); is_level_paper(curves, amount, thing); "
    "are_paid(curves, amount, thing); parting_of(curves, one, other)",
    "webs": "persons_of(web); first_unfounded(web); is_founded(web); is_clear(web); is_circle(web, thing); "
    "is_dues_order(web, thing); circle_of(web); dues_order(web)",
    "chosen": "chosen_curves(web, choices); most_curves(web); first_choices(web); "
    "exchanged(choices, firm, index, option); open_holdings(web, person); choices_of(web, choices, person)",
    "solving": "solved(rows, right)",
    "rows": "has_of(web, amounts, payments); levels_of(web, choices, payments); "
    "are_right(web, amounts, choices, thing); least_row(web, amounts, choices); greatest_row(web, amounts, choices)",
    "webpapers": "parting_lot(web, one, other); is_parting_lot(web, one, other, thing)",
    "signs": "told(web, amounts, choices); paid_to(web, payments); change_of(web, amounts, choices, others); "
    "claimed(web, levels, firm, index, option); sign_of(web, amounts, choices, firm, index, option)",
    "outcomes": "outcome(web, amounts); main_paper(web, amounts); most_choices(web, amounts); "
    "is_most(web, amounts, choices); is_main_paper(web, amounts, thing)",
    "calm": "bettered_by(web, amounts, choices, person); is_calm(web, amounts, choices); calm_ones(web, amounts)",
    "groups": "group_change(web, amounts, choices, others, persons); best_for(web, amounts, choices, persons)",
    "switches": "gainful(web, amounts, choices); led_on(web, amounts, choices, picks); ended(web, amounts, choices)",
    "walks": "walk(web, one, other); pay_line(web, walk, person); changes(web, walk, firm, index); "
    "is_walk(web, one, other, thing); had_on(walk, t); paid_on(web, walk, t); most_on(web, walk, t)",
    "amountsfor": "least_part(web, one, other, person, pay); least_for_all(web, one, other, pays)",
    "compared": "better(web, rival, one, other, person); alike(web, rival, one, other); always_alike(web, rival); "
    "first_unlike(web, rival, one, other); first_amount(web, rival)",
    "rounds": "is_round(thing); worths_at(deal, price); worth_at(deal, price); price_of(deal); worth_curve(deal)",
    "roundpapers": "counts_at(deal, price); parts_of(deal); things_behind(deal); round_paper(deal); "
    "is_round_paper(deal, thing)",
    "offers": "pays(web, offers); gains(web, one, other); gainers(web, one, other); losers(web, one, other); "
    "votes_for(classes, persons); is_class(thing); is_carried(classes, persons); "
    "is_carried_alone(web, one, other, classes)",
    "sidepay": "least_side_pay(web, one, other, classes); is_side_pay(web, one, other, classes, thing); "
    "side_sum(side); bearers(web, one, other, side)",
    "books": "book_of(web, amounts); is_book(thing); unlike_in(book, other)",
}

CLASSES = {
    ("kept", "Kept(web)"): "put_firm(firm); take_firm(name); put_amount(name, amount); put_holding(name, holding); "
    "take_holding(name, index); web(); amounts(); paid(); moved(); outcome(); undo(); twin(); __eq__(other)",
    ("desk", "Desk()"): "execute(line); told_entries(); told_amounts(); twin(); __eq__(other)",
}

ERRORS = {
    "Circle": ("names",),
    "NoCommand": ("line",),
    "NoDeed": ("index",),
    "NoPrice": (),
    "NoText": ("line", "column"),
    "NotFounded": ("name",),
    "Nothing": (),
    "TooMany": ("most",),
    "Wrong": ("place",),
}


class Functions(unittest.TestCase):
    def test_each_function(self):
        for module_name, texts in FUNCTIONS.items():
            module = importlib.import_module("soldwhole." + module_name)
            for text in texts.split("; "):
                name = text.partition("(")[0]
                function = getattr(module, name)
                self.assertTrue(inspect.isfunction(function), text)
                self.assertEqual(function.__module__, module.__name__, text)
                self.assertEqual(name + str(inspect.signature(function)), text)


class Classes(unittest.TestCase):
    def test_each_method_stands_in_the_class_itself(self):
        for (module_name, head), texts in CLASSES.items():
            module = importlib.import_module("soldwhole." + module_name)
            own = getattr(module, head.partition("(")[0])
            self.assertEqual(own.__module__, module.__name__)
            self.assertEqual(own.__name__ + str(inspect.signature(own)), head)
            for text in texts.split("; "):
                method = vars(own)[text.partition("(")[0]]
                told = str(inspect.signature(method)).replace("(self, ", "(").replace("(self)", "()")
                self.assertEqual(method.__name__ + told, text)


class Errors(unittest.TestCase):
    def test_families(self):
        self.assertEqual(errors.SoldError.__bases__, (ValueError,))
        for name in ERRORS:
            self.assertEqual(getattr(errors, name).__bases__, (errors.SoldError,), name)
            self.assertEqual(getattr(errors, name).__module__, "soldwhole.errors")

    def test_fields_are_the_objects_given(self):
        for name, fields in ERRORS.items():
            for kind in (list, dict, object):
                given = [kind() for _ in fields]
                error = getattr(errors, name)(*given)
                for field, thing in zip(fields, given):
                    self.assertIs(getattr(error, field), thing)

    def test_any_values_will_do(self):
        for thing in (None, True, 10 ** 999, "", "%s {} \n", [[]], ({},), {"a": [1]}, errors.Wrong(1)):
            for name, fields in ERRORS.items():
                error = getattr(errors, name)(*[thing for _ in fields])
                for field in fields:
                    self.assertIs(getattr(error, field), thing)

    def test_fields_may_be_named(self):
        for name, fields in ERRORS.items():
            error = getattr(errors, name)(**{field: field for field in fields})
            for field in fields:
                self.assertEqual(getattr(error, field), field)

    def test_caught_as_value_errors(self):
        with self.assertRaises(ValueError):
            raise errors.Nothing()
        with self.assertRaises(errors.SoldError) as caught:
            raise errors.NoText(1, 2)
        self.assertEqual((caught.exception.line, caught.exception.column), (1, 2))


if __name__ == "__main__":
    unittest.main()
