"""The interface: all names, arguments and attributes are there, each where it is listed."""

import importlib
import inspect
import unittest

from closestfit import errors
from closestfit.desk import Desk
from tests.samples import NUMBERS

FUNCTIONS = {
    "kinds": (
        "is_signature(value); is_value(signature, kind, value); is_finite(signature, kind)"),
    "counts": (
        "finite_evidence(signature, kind); is_finite_evidence(signature, kind, value); "
        "count_of(signature, kind); number_of(signature, kind, strangers, size); "
        "value_at(signature, kind, strangers, index); index_of(signature, kind, strangers, value)"),
    "strangers": (
        "renumbered(signature, kinds, values); exchanged(signature, kinds, values, exchange); "
        "with_constructor(signature, kind, constructor); seen_without(signature, kinds, values, names)"),
    "patterns": (
        "is_case(signature, kinds, value); is_pattern(signature, kinds, value); "
        "matches(signature, kinds, case, values); instance_evidence(signature, kinds, case, terms); "
        "accepts_instance(signature, kinds, case, terms, value); is_below(signature, kinds, one, other)"),
    "meets": (
        "meet_of(signature, kinds, one, other); meet_evidence(signature, kinds, one, other); "
        "accepts_meet(signature, kinds, one, other, value)"),
    "choice": (
        "is_table(signature, kinds, value); matching(signature, kinds, table, values); "
        "choice_of(signature, kinds, table, values); choice_evidence(signature, kinds, table, values); "
        "accepts_choice(signature, kinds, table, values, value); "
        "is_fixed(signature, kinds, table, case, number); "
        "fixed_evidence(signature, kinds, table, case, number); "
        "accepts_fixed(signature, kinds, table, case, number, value)"),
    "covers": (
        "split_case(signature, kinds, case, variable); is_covered(signature, kinds, case, table, numbers); "
        "cover_evidence(signature, kinds, case, table, numbers); "
        "accepts_cover(signature, kinds, case, table, numbers, value)"),
    "clear": (
        "is_clear(signature, kinds, table); clear_evidence(signature, kinds, table); "
        "accepts_clear(signature, kinds, table, value); is_complete(signature, kinds, table); "
        "complete_evidence(signature, kinds, table); accepts_complete(signature, kinds, table, value); "
        "is_ever_chosen(signature, kinds, table, number); chosen_evidence(signature, kinds, table, number); "
        "accepts_chosen(signature, kinds, table, number, value); needed_part(signature, kinds, table); "
        "are_alike(signature, kinds, table, other); alike_evidence(signature, kinds, table, other); "
        "accepts_alike(signature, kinds, table, other, value)"),
    "closing": (
        "quarrels(signature, kinds, table); needed(signature, kinds, table); "
        "quarrel_evidence(signature, kinds, table, numbers); "
        "accepts_quarrel(signature, kinds, table, numbers, value); "
        "count_evidence(signature, kinds, table, count); "
        "accepts_count(signature, kinds, table, count, value)"),
    "programs": (
        "is_program(value); is_use(program, value); chosen(program, use); step(program, use); "
        "uses_in(program, number); first_unflat(program)"),
    "sound": (
        "joint_case(program, number, path); use_evidence(program, number, path); "
        "is_use_evidence(program, number, path, value); stuck_uses(program)"),
    "evaluate": (
        "comes_to(program, use)"),
    "records": (
        "done_evidence(program, use); accepts_done(program, use, value); are_rows(program, value)"),
    "ends": (
        "following(program, name, first); facts(program); edges(program); ends_evidence(program); "
        "accepts_ends(program, value); rows_evidence(program, use); accepts_rows(program, use, value); "
        "always_value(program)"),
    "weights": (
        "uses_in_bodies(program); measure(program, weights, use); at_use(program, weights, number); "
        "weights_evidence(program); accepts_weights(program, value); layers_evidence(program); "
        "accepts_layers(program, value); layer_numbers(program)"),
    "views": (
        "part_of(signature, kinds, table, view); chosen_in(signature, kinds, table, case); "
        "chosen_in_evidence(signature, kinds, table, case, number); "
        "accepts_chosen_in(signature, kinds, table, case, number, value); "
        "alike_in(signature, kinds, one, other, case); "
        "alike_in_evidence(signature, kinds, one, other, case); "
        "accepts_alike_in(signature, kinds, one, other, case, value)"),
    "ways": (
        "program_part(program, numbers); definitions_on(program, uses)"),
    "modules": (
        "is_modules(program, value); reached_by(program, modules, unit); program_of(program, modules, unit); "
        "cut_signature(program, modules, unit)"),
    "units": (
        "units_evidence(program, modules); accepts_units(program, modules, value); "
        "bare_evidence(program, modules); accepts_bare(program, modules, value); "
        "wanted_modules(program, modules, uses); further_imports(program, modules, unit, wanted); "
        "accepts_imports(program, modules, unit, wanted, value)"),
    "scanning": (
        "scan(text)"),
    "reading": (
        "next_tokens(text, kind); read_program(text); read_use(program, text)"),
    "writing": (
        "program_text(program); use_text(program, use)"),
    "journals": (
        "replayed(signature, generics, journal); are_right(signature, generics, records)"),
}
ERRORS = {"BadValue": ("name",), "TooLarge": ("what",), "NotPossible": ("why",), "TextError": ("column", "words")}
METHODS = {"act": ("command",), "undo": (), "program": (), "asked": (), "journal": (), "answer": ("use",), "evidence": ("use",),
           "word": ("name",), "records": (), "twin": ()}


class Interface(unittest.TestCase):
    def test_functions(self):
        for name, calls in FUNCTIONS.items():
            module = importlib.import_module(f"closestfit.{name}")
            for call in calls.split("; "):
                own, _, arguments = call[:-1].partition("(")
                function = getattr(module, own)
                self.assertTrue(inspect.isfunction(function))
                self.assertEqual(function.__module__, module.__name__)
                self.assertEqual(", ".join(inspect.signature(function).parameters), arguments)

    def test_errors(self):
        self.assertEqual(errors.FitError.__module__, "closestfit.errors")
        for name, arguments in ERRORS.items():
            kind = getattr(errors, name)
            self.assertEqual((kind.__module__, kind.__bases__), ("closestfit.errors", (errors.FitError,)))
            self.assertEqual(tuple(inspect.signature(kind).parameters), arguments)
            values = (3, "words")[-len(arguments):]
            self.assertEqual(tuple(getattr(kind(*values), argument) for argument in arguments), values)

    def test_the_desk(self):
        self.assertEqual(Desk.__module__, "closestfit.desk")
        self.assertEqual(tuple(inspect.signature(Desk).parameters), ("signature", "generics"))
        desk = Desk(NUMBERS, (("F", (0,), 0),))
        for name, arguments in METHODS.items():
            self.assertIn(name, vars(Desk))
            self.assertEqual(tuple(inspect.signature(getattr(desk, name)).parameters), arguments)


if __name__ == "__main__":
    unittest.main()
