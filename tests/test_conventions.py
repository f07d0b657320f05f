"""[0.1] to [0.7]: what holds for all functions and classes together."""

import inspect
import os
import re
import unittest

from stepletters import errors
from stepletters.algebras import algebras, least, loops
from stepletters.algebras.algebras import Algebra
from stepletters.base import ratios, tables
from stepletters.built import built
from stepletters.classes import classes, rings, triples, weights
from stepletters.desk import desk
from stepletters.desk.desk import Desk
from stepletters.plain import degrees, ends, grades
from stepletters.text import strings
from stepletters.towers import brackets, lengths, maps, towers
from stepletters.towers.towers import Tower
from stepletters.words import sums, words
from stepletters.words.sums import Sum
from support import Case, any_values

DOCUMENT = os.path.join(os.path.dirname(os.path.abspath(__file__)), "..", "..", "shared", "DOC.md")
BALL = Tower((2, 3), ({}, {(2, 0): 1}))
X, Y = Sum.letter((2, 3), 0), Sum.letter((2, 3), 1)
NIL = Tower((1, 1, 1), ({}, {}, {(1, 1, 0): 1}))
A, B = Sum.letter((1, 1, 1), 0), Sum.letter((1, 1, 1), 1)
TABLE = ({}, {}, {(0, 1): 1})
PLANE = Algebra((2, 4), {(0, 0): {1: 1}})

# Each function of the interface by its module, with arguments that it takes.
INTERFACE = {
    ratios: {"is_integer": (1,), "is_ratio": (1,), "lowest": (4, -6), "plus": ((1, 2), (1, 3)),
             "minus": ((1, 2), (1, 3)), "times": ((1, 2), (1, 3)), "over": ((1, 2), (1, 3)),
             "compare": ((1, 2), (1, 3)), "ratio_text": ((1, 2),)},
    tables: {"is_table": (((1,),),), "rank": (((1, 2),),), "kernel": (((1, 2),),), "span_paper": (((1, 2),), (2, 4)),
             "is_span_paper": (((1, 2),), (2, 4), None)},
    words: {"is_letters": ((2, 3),), "is_word": ((2, 3), (1, 0)), "word_degree": ((2, 3), (1, 0)),
            "word_length": ((2, 3), (1, 0)), "word_product": ((2, 3), (1, 0), (0, 1)), "words_of": ((2, 3), 6),
            "word_count": ((2, 3), 6), "even_letters": ((2, 3),), "odd_letters": ((2, 3),), "top_word": ((1, 3),),
            "sorted_word": ((2, 3), (1, 0)), "each_word": ((2, 3), 4)},
    sums: {"power": (X, 2), "placed": (X, (3, 2), (1, 0)), "plain_sum": (X,)},
    towers: {"tower_fault": ((2,), ({},)), "beside": (BALL, BALL), "cut_tower": (BALL, 1), "with_letter": (BALL, 3, {}),
             "plain_tower": (BALL,), "quadratic_tower": (BALL,)},
    classes: {"closed_count": (BALL, 2), "step_count": (BALL, 4), "class_count": (BALL, 2), "class_row": (BALL, 5),
              "class_basis": (BALL, 2), "is_class_basis": (BALL, 2, None), "class_paper": (BALL, X),
              "is_class_paper": (BALL, X, None), "coordinates": (BALL, (X,), X)},
    rings: {"class_products": (BALL, (X,), (X,), ()), "pairing_rank": (BALL, 0, 2), "product_count": (BALL, 2, 4),
            "is_product": (BALL, 2, X), "cup_length": (BALL, 4)},
    weights: {"is_weighting": (BALL, None), "plain_weighting": ((2, 3),), "weight_words": ((2, 3), (1, 2), 4, 2),
              "weight_count": (BALL, (1, 2), 2, 1), "weight_row": (BALL, (1, 2), 1), "signed_number": ((2, 3), (1, 2), 1)},
    ends: {"top_degree": ((2, 3),), "euler_number": ((2, 3),), "does_end": (BALL,), "end_paper": (BALL,),
           "is_end_paper": (BALL, None), "top_class": (BALL,), "total_count": (BALL,)},
    built: {"sphere": (4,), "projective": (2, 3), "special_group": (3,), "spaces": (2, 4), "flags": (3,),
            "box_count": (2, 3, 4), "turn_count": (4, 3)},
    grades: {"grade_count": (BALL, 1, 5), "left_count": (BALL, 2), "grade_row": (BALL, 0), "top_grade": (BALL,)},
    degrees: {"is_made": (10, (4, 6)), "barring_lots": ((4, 6), (9, 9)), "can_end": ((4, 6), (9, 9)),
              "degrees_paper": ((4, 6), (9, 23)), "is_degrees_paper": ((4, 6), (9, 23), None)},
    lengths: {"step_length": (BALL,), "length_part": (X, 1), "length_count": (BALL, 2, 1), "length_row": (BALL, 4),
              "length_weights": (BALL,), "top_length": (BALL,), "is_one_length": (BALL, None)},
    brackets: {"brackets_fault": (TABLE,), "is_brackets": (None,), "bracket_of": (TABLE, (1, 0, 0), (0, (1, 2), 3)),
               "tower_of_brackets": (TABLE,), "brackets_of": (NIL,), "falling_row": (TABLE,), "is_like_ring": (NIL,), "reach": (NIL,)},
    algebras: {"algebra_fault": ((2, 4), {(0, 0): {1: 1}}), "beside_algebras": (PLANE, PLANE), "joined": (PLANE, PLANE),
               "connected": (PLANE, PLANE), "is_paired": (PLANE,)},
    least: {"least_tower": (PLANE, 6), "letter_counts": (PLANE, 6), "is_least_tower": (PLANE, 6, None)},
    loops: {"loop_series": ((2, 3), 5), "counts_of_series": ((1, 2, 3),), "series_of_counts": ((1, -1),),
            "free_counts": ((3, 2), 7), "paired_counts": (2, 3, 7)},
    maps: {"map_fault": (BALL, BALL, (X, Y)), "is_map": (BALL, BALL, None), "led": (BALL, BALL, (X, Y), X * Y),
           "composed": (BALL, BALL, BALL, (X, Y), (X, Y)), "linear_part": (BALL, BALL, (X, Y), 2), "class_map": (BALL, BALL, (X, Y), 2)},
    triples: {"triple": (NIL, A, A, B), "is_triple": (NIL, A, A, B, None), "triple_sum": (NIL, A, A, A, (A, A - A)),
              "triple_paper": (NIL, A, A, B), "is_triple_paper": (NIL, A, A, B, None)},
    strings: {"kind_of_text": ("letters 2",), "read_value": ("sum 2 ; 1 : 1",), "is_text": (None,)},
}
# These ask for something of what is passed to them, and have no parameter `value`.
ASKING = ("is_product", "does_end", "is_made", "can_end", "is_like_ring", "is_paired")
METHODS = {Sum: "letter one letters terms is_level degree number_at part __add__ __sub__ __neg__ __mul__ __eq__ "
                "__contains__ __len__ __bool__ __iter__ __str__",
           Tower: "letters steps size is_plain step is_closed letter_sum __eq__ __len__ __str__",
           Algebra: "degrees size products top unit product row __eq__ __len__ __str__",
           Desk: "keep put_beside make_plain grow cut drop claim let_go undo redo during tower claimed names labels deeds twin "
                 "__contains__ __len__ __eq__ __str__"}
CONSTANTS = {words: "MAX_LETTERS MAX_LETTER MAX_DEGREE MAX_WORDS", tables: "MAX_SIDE", sums: "MAX_TERMS MAX_PAIRS MAX_POWER",
             classes: "MAX_LISTED MAX_CLASSED", rings: "MAX_FACTORS MAX_FACTORED", weights: "MOST_WEIGHT MAX_WEIGHTED MAX_WORDS_TOLD",
             ends: "MAX_EVEN", grades: "MOST_GRADE", degrees: "MAX_EVENS MAX_ODDS MAX_SHOWN MAX_LISTED", lengths: "MAX_LENGTH",
             brackets: "MOST_UNITS", algebras: "MAX_UNITS MAX_UNIT_DEGREE", least: "MAX_GROWN MAX_WIDTH", loops: "MOST_LOOP MOST_UNITS",
             maps: "MAX_MAPPED", triples: "MAX_LISTED MAX_TOLD", desk: "MAX_KEPT MAX_CLAIMS MAX_CLAIMED",
             strings: "MAX_TEXT MAX_INTEGERS KINDS"}


def plain(value):
    """A value whose parts can be compared: sums and towers as what they tell."""
    if isinstance(value, Sum):
        return ("sum", value.letters, value.terms)
    if isinstance(value, Tower):
        return ("tower", value.letters, tuple(plain(step) for step in value.steps))
    if isinstance(value, Algebra):
        return ("algebra", value.degrees, value.products)
    if isinstance(value, tuple):
        return tuple(plain(part) for part in value)
    if inspect.isgenerator(value):
        return list(value)
    return value


def kinds(value):
    """All values in a value."""
    yield value
    if isinstance(value, (tuple, list)):
        for part in value:
            yield from kinds(part)
    if isinstance(value, dict):
        for key, part in value.items():
            yield from kinds(key)
            yield from kinds(part)


class InterfaceTest(Case):
    def test_each_name_is_defined_in_its_file(self):
        for module, calls in INTERFACE.items():
            for name in calls:
                self.assertEqual(getattr(module, name).__module__, module.__name__)
        for kind, names in METHODS.items():
            for name in names.split():
                self.assertIn(name, vars(kind))
        self.assertEqual((Sum.__module__, Tower.__module__), (sums.__name__, towers.__name__))
        self.assertEqual((Algebra.__module__, Desk.__module__), (algebras.__name__, desk.__name__))
        self.assertEqual(strings.write_value.__module__, strings.__name__)
        for module, names in CONSTANTS.items():
            for name in names.split():
                self.assertIn(name, vars(module))

    def test_equal_calls_return_equal_results_of_the_told_kinds(self):
        for module, calls in INTERFACE.items():
            for name, given in calls.items():
                call = getattr(module, name)
                before = plain(given)
                first, second = plain(call(*given)), plain(call(*given))
                self.same(first, second)
                self.same(plain(given), before)
                for part in kinds(first):
                    if not inspect.isgeneratorfunction(call):
                        self.assertNotIsInstance(part, (list, set, float))

    def test_functions_that_judge_return_true_or_false_for_any_value(self):
        for module, calls in INTERFACE.items():
            for name, given in calls.items():
                if name in ASKING:
                    self.assertIs(type(getattr(module, name)(*given)), bool)
                elif name.startswith(("is_", "does_", "can_")):
                    for value in any_values():
                        self.assertIn(getattr(module, name)(*given[:-1], value), (True, False))
                        self.assertIs(type(getattr(module, name)(*given[:-1], value)), bool)

    def test_the_first_of_two_wrong_arguments_decides(self):
        for call, given, name in [
            (ratios.plus, ((2, 4), None), "InvalidRatio"), (tables.span_paper, (None, None), "InvalidTable"),
            (words.is_word, (None, None), "InvalidLetters"), (words.words_of, ((0,), -1), "InvalidLetters"),
            (words.word_product, ((2,), None, None), "InvalidWord"), (Sum, ((0,), None), "InvalidLetters"),
            (sums.power, (None, -1), "InvalidSum"), (sums.placed, (X, None, None), "InvalidLetters"),
            (sums.placed, (None, None, None), "InvalidSum"), (Tower, ((0,), None), "InvalidLetters"),
            (towers.beside, (None, None), "InvalidTower"), (towers.cut_tower, (None, -1), "InvalidTower"),
            (classes.class_paper, (None, None), "InvalidTower"), (classes.class_paper, (BALL, None), "InvalidSum"),
            (classes.coordinates, (BALL, None, None), "InvalidOperation"),
            (classes.coordinates, (None, None, None), "InvalidTower"),
        ]:
            self.fails(name, None, call, *given)
        self.fails("InvalidNumber", True, ratios.lowest, True, 0)
        self.fails("InvalidNumber", None, towers.with_letter, BALL, None, None)
        self.fails("InvalidNumber", None, classes.is_class_basis, BALL, None, None)

    def test_the_first_of_two_wrong_arguments_decides_for_classes_and_ends(self):
        for call, given, name in [
            (rings.class_products, (BALL, None, None, None), "InvalidOperation"),
            (rings.class_products, (None, (), (), ()), "InvalidTower"), (rings.is_product, (BALL, 0, None), "InvalidNumber"),
            (rings.is_product, (BALL, 1, None), "InvalidSum"), (rings.is_product, (None, 0, None), "InvalidTower"),
            (weights.is_weighting, (None, None), "InvalidTower"),
            (weights.weight_words, ((0,), (0,), -1, -1), "InvalidLetters"),
            (weights.weight_words, ((2,), (0,), -1, -1), "InvalidOperation"),
            (weights.weight_count, (BALL, (1, 1), -1, -1), "InvalidOperation"),
            (weights.signed_number, ((0,), (0,), -1), "InvalidLetters"),
            (ends.is_end_paper, (None, None), "InvalidTower"),
        ]:
            self.fails(name, 0 if name == "InvalidNumber" else None, call, *given)
        self.fails("InvalidNumber", 61, rings.pairing_rank, BALL, 61, -1)
        self.fails("InvalidNumber", 0, rings.product_count, BALL, 0, -1)
        self.fails("InvalidNumber", 81, weights.weight_count, BALL, (1, 2), 81, 61)
        self.fails("InvalidNumber", 0, built.projective, 0, 0)
        self.fails("InvalidNumber", 0, built.spaces, 0, 0)
        self.fails("InvalidNumber", -1, built.box_count, -1, 41, 1601)
        self.fails("InvalidNumber", 41, built.turn_count, 41, 781)
        self.fails("InvalidNumber", 25, grades.grade_count, BALL, 25, 81)
        self.fails("InvalidNumber", -1, degrees.is_made, -1, None)
        self.fails("InvalidNumber", 61, lengths.length_count, BALL, 61, 81)
        for call in (grades.grade_count, lengths.length_count):
            self.fails("InvalidTower", None, call, None, -1, -1)
        self.fails("InvalidSum", None, lengths.length_part, None, -1)

    def test_the_first_of_two_wrong_arguments_decides_for_algebras_maps_and_triples(self):
        for call, given, name in [
            (brackets.bracket_of, (None, None, None), "InvalidTable"), (brackets.bracket_of, (TABLE, None, None), "InvalidOperation"),
            (Algebra, (None, None), "InvalidAlgebra"), (PLANE.product, (None, None), "InvalidOperation"),
            (algebras.beside_algebras, (PLANE, None), "InvalidAlgebra"), (least.least_tower, (None, None), "InvalidAlgebra"),
            (least.is_least_tower, (BALL, 8, None), "InvalidAlgebra"), (loops.loop_series, ((1,), -1), "InvalidLetters"),
            (loops.free_counts, ((1,), -1), "InvalidOperation"), (maps.map_fault, (None, None, None), "InvalidTower"),
            (maps.led, (BALL, BALL, None, None), "InvalidMap"), (maps.led, (BALL, BALL, (X, Y), None), "InvalidSum"),
            (maps.linear_part, (BALL, BALL, (X, X), 0), "InvalidMap"), (maps.composed, (BALL, BALL, None, None, None), "InvalidTower"),
            (triples.triple, (None, None, None, None), "InvalidTower"), (triples.triple, (NIL, A, None, A - A), "InvalidSum"),
            (triples.triple_sum, (NIL, A, A - A, A, None), "InvalidOperation"), (strings.read_value, (None,), "ParseError"),
        ]:
            self.fails(name, 0 if name == "ParseError" else None, call, *given)
        self.fails("InvalidNumber", 8, least.is_least_tower, PLANE, 8, None)
        self.fails("InvalidNumber", 13, loops.paired_counts, 13, 41, 61)
        self.fails("InvalidNumber", 41, loops.paired_counts, 3, 41, 61)
        self.fails("InvalidNumber", 61, loops.paired_counts, 3, 3, 61)
        self.fails("InvalidNumber", 61, maps.class_map, BALL, BALL, (X, Y), 61)
        self.fails("UnknownName", "texts", strings.write_value, None, kind="texts")
        self.fails("InvalidOperation", None, strings.write_value, None, kind="sum")

    def test_each_wrong_argument_is_refused_with_an_error_of_the_package(self):
        own = tuple(value for value in vars(errors).values() if isinstance(value, type))
        values = any_values()
        wide = values + [(value,) for value in values] + [(value, value) for value in values] + [{(1, 0): value} for value in values]
        wide += [(word, value) for word in ("test", "step", "powers", "tower", "lot") for value in values]
        wide += [("zero", A, value, value) for value in values] + [({}, {}, {(0, 1): value}) for value in values] + [(BALL, value) for value in values]
        for module, calls in INTERFACE.items():
            for name, given in calls.items():
                for at in range(len(given)):
                    for value in wide:
                        try:
                            plain(getattr(module, name)(*given[:at], value, *given[at + 1:]))
                        except own:
                            pass
        for value in wide:
            kept = Desk()
            kept.keep("f", BALL)
            for call in (lambda: Sum((2, 3), value), lambda: Sum.letter((2, 3), value), lambda: X.number_at(value), lambda: X.part(value),
                         lambda: X.is_level is (value in X), lambda: Tower((2, 3), value), lambda: BALL.step(value), lambda: BALL.letter_sum(value),
                         lambda: Algebra((2, 4), value), lambda: PLANE.unit(value), lambda: PLANE.product((1, 2, 3), value), lambda: PLANE.row(value),
                         lambda: kept.keep(value, BALL), lambda: kept.keep("g", value), lambda: kept.put_beside("g", value, "f"),
                         lambda: kept.put_beside("g", "f", value), lambda: kept.make_plain(value), lambda: kept.grow(value, 3, {}),
                         lambda: kept.grow("f", value, {}), lambda: kept.grow("f", 3, value), lambda: kept.cut("f", value), lambda: kept.drop(value),
                         lambda: kept.claim(value, ("ends", "f")), lambda: kept.claim("a", value), lambda: kept.claim("a", ("closed", "f", value)),
                         lambda: kept.claim("a", ("letters", "f", value)), lambda: kept.claim("a", ("classes", "f", 2, value)),
                         lambda: kept.claim("a", ("equal", value, value)), lambda: kept.claim("a", (value, "f")), lambda: kept.let_go(value),
                         lambda: kept.undo(times=value), lambda: kept.redo(times=value), lambda: kept.tower(value), lambda: kept.claimed(value),
                         lambda: value in kept, lambda: strings.write_value(value, kind="sum"), lambda: strings.write_value(value, kind="integers"),
                         lambda: strings.write_value(value, kind="algebra"), lambda: strings.write_value((2, 1), kind=value)):
                try:
                    call()
                except own:
                    pass
            for thing in (X, BALL, PLANE, kept):
                self.assertIs(type(thing == value), bool)
                self.assertIs(thing != value, not thing == value)

    def test_parameters(self):
        # [0.3]
        for module, calls in INTERFACE.items():
            for name, given in calls.items():
                told = inspect.signature(getattr(module, name)).parameters.values()
                self.assertEqual([parameter.kind for parameter in told], [inspect.Parameter.POSITIONAL_OR_KEYWORD] * len(given))
        for call, name, default in ((strings.write_value, "kind", inspect.Parameter.empty), (Desk.undo, "times", 1), (Desk.redo, "times", 1)):
            parameter = inspect.signature(call).parameters[name]
            self.assertEqual((parameter.kind, parameter.default), (inspect.Parameter.KEYWORD_ONLY, default))

    @unittest.skipUnless(os.path.exists(DOCUMENT), "the document is not here")
    def test_names_of_the_document(self):
        """Each heading of a function tells its name and its parameters; `sum` is a builtin, and so `a_sum` in the code."""
        with open(DOCUMENT, encoding="utf-8") as file:
            text = file.read()
        told = {}
        for line in re.findall(r"(?m)^### (.*)$", text[text.index("## Stage 1:"):]):
            for name, names in re.findall(r"(\w+)\(([^)]*)\)", line):
                told.setdefault(name, []).append(names.replace("sum", "a_sum").replace("*, ", "").split(", ") if names else [])
        found = {name: getattr(module, name) for module, calls in INTERFACE.items() for name in calls}
        found["write_value"] = strings.write_value
        self.assertEqual(set(told) - {"Sum", "Tower", "Algebra", "Desk"}, set(found))
        for name, call in found.items():
            self.assertIn(list(inspect.signature(call).parameters), told[name])

    def test_returned_dicts_ascend(self):
        for a_sum in (X + Sum((2, 3), {(0, 1): 1}), X * X + X, BALL.step(Sum((2, 3), {(0, 1): 1, (3, 1): 2}))):
            self.same(list(a_sum.terms), sorted(a_sum.terms))
        given = {(3, 0): 1, (0, 0): 2, (1, 1): 3}
        self.same(list(Sum((2, 3), given).terms), sorted(given))
        self.same(list(given), [(3, 0), (0, 0), (1, 1)])

    def test_objects_never_change(self):
        for thing, names in ((X, ("letters", "terms", "is_level", "degree")), (BALL, ("letters", "steps", "size")),
                             (PLANE, ("degrees", "size", "products", "top")), (Desk(), ("names", "labels", "deeds"))):
            for name in names:
                with self.assertRaises(AttributeError):
                    setattr(thing, name, None)


if __name__ == "__main__":
    unittest.main()
