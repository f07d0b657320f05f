"""Stage 19, a desk: [19.1] to [19.4]."""

import itertools
import random
import unittest

from stepletters.built.built import projective, sphere
from stepletters.classes.classes import class_count
from stepletters.desk import desk as module
from stepletters.desk.desk import Desk
from stepletters.plain.ends import does_end
from stepletters.towers.towers import Tower, beside, cut_tower, plain_tower, with_letter
from stepletters.words.sums import Sum
from support import BALL, BENT, EMPTY, FULL, HALF, KNOT, LONGER, OPEN, PLANE, ROW, SIXTY, TWIST, Case, any_values

NAMES = ["f", "g", "abcdefgh", "zzzzzzzz", "az"]
NOT_NAMES = ["", "abcdefghi", "F", "f1", "a b", "a_b", "f\n", "aB", "a-b", " a", "1", None, 1, True, ("f",), ["f"], {"f": 1}, (), BALL]
NOT_CLAIMS = [
    None, (), ("equal",), ("equal", "f"), ("equal", "f", "g", "h"), ("equal", "f", 1), ("equal", "", "f"), ("equal", "f", "F"), ("plain",), ("plain", "f", "g"),
    ("plain", None), ["plain", "f"], ("plain", "toolongname"), ("letters", "f"), ("letters", "f", None), ("letters", "f", (0,)), ("letters", "f", (41,)),
    ("letters", "f", [2]), ("letters", "f", (True,)), ("letters", "f", (2,) * 25), ("letters", "f", (2, 3), ()), ("closed", "f"), ("closed", "f", None),
    ("closed", "f", ()), ("closed", "f", {(1, 0): True}), ("closed", "f", {(1, 0): (2, 4)}), ("closed", "f", {(1, 0): LONGER}), ("closed", "f", {(1, 0): None}),
    ("closed", "f", {(-1, 0): 1}), ("closed", "f", {(True, 0): 1}), ("closed", "f", {1: 1}), ("closed", "f", {"ab": 1}), ("closed", "f", {(LONGER,): 1}),
    ("closed", "f", {(1, None): 1}), ("closed", "f", {((1, 0),): 1}), ("closed", "f", {(n,): 1 for n in range(401)}), ("closed", 1, {}),
    ("classes", "f", 2), ("classes", "f", -1, 0), ("classes", "f", 21, 0), ("classes", "f", 2, -1), ("classes", "f", 2, 151), ("classes", "f", True, 0),
    ("classes", "f", 2, False), ("classes", "f", 2, 0, 0), ("classes", "f", LONGER, 0), ("classes", "f", "2", 0), ("classes", "f", (2, 0)), ("ends",),
    ("ends", "f", "g"), ("ends", None), ("end", "f"), ("", "f"), (None, "f"), (1, "f"), (("ends",), "f"), ("Ends", "f"), {"ends": "f"}, "ends f", ("f", "ends"),
]


def filled():
    """A desk with towers and claims."""
    desk = Desk()
    desk.keep("f", BALL)
    desk.keep("g", TWIST)
    desk.claim("a", ("ends", "f"))
    desk.claim("b", ("classes", "f", 2, 1))
    return desk


def state(desk):
    """All that a desk shows."""
    return (desk.names, desk.labels, desk.deeds, [desk.tower(name) for name in desk.names], [desk.claimed(label) for label in desk.labels], len(desk), str(desk))


class KeepTest(Case):
    def test_constants(self):
        self.same([module.MAX_KEPT, module.MAX_CLAIMS, module.MAX_CLAIMED], [12, 12, 20])

    def test_an_empty_desk(self):
        desk = Desk()
        self.same(state(desk), ((), (), 0, [], [], 0, "desk of 0 towers, 0 claims"))
        self.assertIs("f" in desk, False)
        self.assertEqual(desk, Desk())
        self.fails("NothingToUndo", 1, desk.undo)
        self.fails("NothingToUndo", 1, desk.redo)
        self.same([desk.undo(times=0), desk.redo(times=0)], [0, 0])
        with self.assertRaises(TypeError):
            list(desk)
        for wrong in (lambda: desk + desk, lambda: desk * 2, lambda: -desk, lambda: desk < desk, lambda: desk["f"]):
            with self.assertRaises(TypeError):
                wrong()
        for name in ("names", "labels", "deeds"):
            with self.assertRaises(AttributeError):
                setattr(desk, name, 1)

    def test_keep(self):
        # [19.1]
        desk = Desk()
        for many, name in enumerate(NAMES, 1):
            self.same(desk.keep(name, KNOT), many)
            self.assertEqual(desk.tower(name), KNOT)
            self.assertIs(name in desk, True)
        self.same(desk.names, tuple(sorted(NAMES)))
        self.same(desk.keep("f", BALL), 6)
        self.assertEqual([desk.tower("f"), desk.tower("g")], [BALL, KNOT])
        self.same((len(desk), str(desk)), (5, "desk of 5 towers, 0 claims"))
        one = Desk()
        one.keep("f", EMPTY)
        one.claim("l", ("plain", "f"))
        self.same(str(one), "desk of 1 towers, 1 claims")

    def test_errors_of_keep(self):
        desk = filled()
        before = state(desk)
        for name in NOT_NAMES:
            self.fails("InvalidOperation", None, desk.keep, name, None)
            self.fails("InvalidOperation", None, desk.put_beside, name, None, None)
            self.assertIs(name in desk, False)
        for value in any_values():
            if not isinstance(value, Tower):
                self.fails("InvalidTower", None, desk.keep, "f", value)
            if value != "a":
                self.fails("UnknownName", value, desk.tower, value)
            self.assertIs(value in desk, False)
        self.same(state(desk), before)

    def test_twelve_names(self):
        desk = Desk()
        names = ["n" + letter for letter in "abcdefghijkl"]
        for name in names:
            desk.keep(name, EMPTY)
        before = state(desk)
        self.fails("TooMany", 12, desk.keep, "f", BALL)
        self.fails("TooMany", 12, desk.put_beside, "f", "na", "nb")
        self.fails("InvalidTower", None, desk.keep, "f", None)
        self.same(state(desk), before)
        self.same([desk.keep("nc", BALL), desk.put_beside("nd", "nc", "nc"), desk.make_plain("na"), desk.grow("na", 3, {})], [13, 14, 15, 16])
        self.same([desk.drop("na"), desk.keep("f", BALL), len(desk)], [17, 18, 12])
        desk.claim("a", ("letters", "f", (2, 3)))
        # a thirteenth name is told ahead of a claim
        self.fails("TooMany", 12, desk.keep, "na", KNOT)

    def test_put_beside(self):
        desk = filled()
        self.same(desk.put_beside("h", "f", "g"), 5)
        self.assertEqual(desk.tower("h"), beside(BALL, TWIST))
        self.same(desk.put_beside("g", "g", "f"), 6)
        self.assertEqual(desk.tower("g"), beside(TWIST, BALL))
        before = state(desk)
        for value in any_values():
            if value not in ("f", "g"):
                self.fails("UnknownName", value, desk.put_beside, "h", value, "nix")
                self.fails("UnknownName", value, desk.put_beside, "h", "f", value)
        desk.keep("w", Tower((3,) * 20, ({},) * 20))
        self.fails("TooMany", 24, desk.put_beside, "h", "w", "h")
        self.fails("TooMany", 24, desk.put_beside, "f", "w", "w")
        desk.undo()
        self.same(state(desk), before)
        # twelve names, and too many letters: the error of `beside` first
        full = Desk()
        for letter in "abcdefghijkl":
            full.keep(letter, ROW)
        full.keep("b", Tower((3,) * 15, ({},) * 15))
        self.fails("TooMany", 24, full.put_beside, "x", "a", "b")
        self.fails("TooMany", 12, full.put_beside, "x", "a", "a")

    def test_make_plain_grow_and_cut(self):
        desk = filled()
        self.same(desk.make_plain("g"), 5)
        self.assertEqual(desk.tower("g"), plain_tower(TWIST))
        self.same(desk.grow("g", 3, {(2, 0, 0, 0, 0): (1, 2)}), 6)
        self.assertEqual(desk.tower("g"), with_letter(plain_tower(TWIST), 3, {(2, 0, 0, 0, 0): (1, 2)}))
        self.same(desk.cut("g", 2), 7)
        self.assertEqual(desk.tower("g"), cut_tower(TWIST, 2))
        self.same(desk.cut("g", 2), 8)
        for value in any_values() + ["h"]:
            if value not in ("f", "g"):
                self.fails("UnknownName", value, desk.make_plain, value)
                self.fails("UnknownName", value, desk.grow, value, None, None)
                self.fails("UnknownName", value, desk.cut, value, None)
                self.fails("UnknownName", value, desk.drop, value)
        for many in (-1, 3, None, True, LONGER):
            self.fails("InvalidNumber", many, desk.cut, "g", many)
        for degree in (0, 41, None, True):
            self.fails("InvalidNumber", degree, desk.grow, "g", degree, None)
        for terms in (None, (), {(1,): 1}, {(0, 2): 1}, {(1, 0): True}):
            self.fails("InvalidSum", None, desk.grow, "g", 3, terms)
        self.fails("InvalidOperation", None, desk.grow, "g", 3, {(0, 1): 1})
        desk.keep("w", Tower((3,) * 24, ({},) * 24))
        self.fails("TooMany", 24, desk.grow, "w", 3, {})
        self.same(desk.deeds, 9)

    def test_drop(self):
        desk = filled()
        self.same(desk.drop("g"), 5)
        self.same((desk.names, "g" in desk), (("f",), False))
        self.fails("UnknownName", "g", desk.drop, "g")
        self.fails("UnknownName", "g", desk.tower, "g")
        self.fails("Refused", ("claim", "a"), desk.drop, "f")
        self.same([desk.let_go("a"), desk.let_go("b"), desk.drop("f"), len(desk)], [6, 7, 8, 0])


class ClaimsTest(Case):
    def test_values_that_are_no_labels_or_claims(self):
        desk = filled()
        for label in NOT_NAMES:
            self.fails("InvalidOperation", None, desk.claim, label, ("plain", "f"))
            self.fails("InvalidOperation", None, desk.claim, label, None)
            self.fails("UnknownName", label, desk.claimed, label)
            self.fails("UnknownName", label, desk.let_go, label)
        for claim in NOT_CLAIMS:
            self.fails("InvalidOperation", None, desk.claim, "c", claim)
            self.fails("InvalidOperation", None, desk.claim, "a", claim)
        for value in any_values():
            if value != ("equal", "f", "f"):
                self.fails("InvalidOperation", None, desk.claim, "c", value)
            if not isinstance(value, str) or value not in ("a", "b"):
                self.fails("UnknownName", value, desk.claimed, value)
                self.fails("UnknownName", value, desk.let_go, value)
        self.same(desk.deeds, 4)

    def test_true_and_untrue_claims(self):
        # [19.2]
        desk = Desk()
        towers = {"ball": BALL, "same": Tower((2, 3), ({}, {(2, 0): (1, 1)})), "plane": PLANE, "twist": TWIST, "bent": BENT, "knot": KNOT, "open": OPEN,
                  "empty": EMPTY, "half": HALF, "row": ROW, "full": FULL, "wide": Tower((2, 2, 2, 2, 39), ({},) * 5)}
        self.fails("TooMany", 120, does_end, towers["wide"])
        for name, tower in towers.items():
            desk.keep(name, tower)
        for claim, wanted in [
            (("equal", "ball", "same"), True), (("equal", "ball", "ball"), True), (("equal", "ball", "plane"), False), (("equal", "empty", "half"), False),
            (("plain", "ball"), True), (("plain", "twist"), False), (("plain", "half"), False), (("plain", "empty"), True),
            (("letters", "ball", (2, 3)), True), (("letters", "ball", (3, 2)), False), (("letters", "empty", ()), True), (("letters", "ball", ()), False),
            (("closed", "ball", {(1, 0): 1}), True), (("closed", "ball", {(0, 1): 1}), False), (("closed", "ball", {(1, 0): SIXTY, (4, 0): (1, 2)}), True),
            (("closed", "ball", {}), True), (("closed", "ball", {(0, 1): 0}), True), (("closed", "ball", {(0, 2): 1}), False), (("closed", "ball", {(1,): 1}), False),
            (("closed", "ball", {(0, 2): 0}), False), (("closed", "ball", {(201, 0): 1}), False), (("closed", "ball", {(200, 0): 1}), True),
            (("closed", "empty", {(): (-3, 4)}), True), (("closed", "empty", {(0,): 1}), False), (("closed", "ball", {(SIXTY, 0): 1}), False),
            (("closed", "ball", {(n, 0): 1 for n in range(201)}), True), (("closed", "ball", {(n,): 1 for n in range(400)}), False),
            (("closed", "knot", {(0, 0, 1): 1}), False), (("closed", "knot", {(1, 1, 1): 1, (1, 0, 0): 2}), True),
            (("classes", "ball", 2, 1), True), (("classes", "ball", 2, 2), False), (("classes", "ball", 20, 0), True), (("classes", "ball", 0, 1), True),
            (("classes", "ball", 0, 0), False), (("classes", "empty", 0, 1), True), (("classes", "row", 1, 10), True), (("classes", "row", 5, 150), False),
            (("classes", "row", 5, 0), False), (("classes", "row", 2, 45), True), (("classes", "full", 20, 120), True), (("classes", "full", 20, 150), False),
            (("classes", "row", 10, 1), True), (("classes", "row", 20, 0), True),
            (("ends", "ball"), True), (("ends", "twist"), True), (("ends", "open"), False), (("ends", "empty"), True), (("ends", "knot"), False),
            (("ends", "row"), False), (("ends", "wide"), False), (("ends", "full"), False), (("ends", "bent"), False),
        ]:
            before = desk.deeds
            if wanted:
                self.same(desk.claim("c", claim), before + 1)
                self.same(desk.claimed("c"), ascending(claim))
                self.same(desk.labels, ("c",))
                desk.undo()
            else:
                self.fails("Refused", ("claim", "c"), desk.claim, "c", claim)
            self.same((desk.deeds, desk.labels), (before, ()))
        self.assertEqual([class_count(BALL, 2), does_end(BENT)], [1, False])

    def test_errors_of_claims_in_their_order(self):
        desk = filled()
        self.fails("Refused", ("label", "a"), desk.claim, "a", ("ends", "nix"))
        self.fails("Refused", ("label", "a"), desk.claim, "a", ("ends", "f"))
        self.fails("UnknownName", "x", desk.claim, "c", ("equal", "x", "y"))
        self.fails("UnknownName", "y", desk.claim, "c", ("equal", "f", "y"))
        for word, more in (("plain", ()), ("ends", ()), ("letters", ((),)), ("closed", ({},)), ("classes", (0, 1))):
            self.fails("UnknownName", "x", desk.claim, "c", (word, "x") + more)
        for label in "cdefghijkl":
            desk.claim(label, ("plain", "f"))
        self.same((len(desk.labels), desk.deeds), (12, 14))
        self.fails("TooMany", 12, desk.claim, "m", ("ends", "x"))
        self.fails("TooMany", 12, desk.claim, "m", ("plain", "f"))
        self.fails("Refused", ("label", "l"), desk.claim, "l", ("plain", "f"))
        self.same([desk.let_go("l"), desk.claim("m", ("plain", "f")), desk.labels[-1]], [15, 16, "m"])
        self.fails("UnknownName", "l", desk.let_go, "l")

    def test_claims_share_no_state(self):
        desk = Desk()
        desk.keep("f", BALL)
        terms = {(2, 0): 1, (1, 0): (1, 2)}
        desk.claim("c", ("closed", "f", terms))
        self.same(list(terms), [(2, 0), (1, 0)])
        terms[(0, 1)] = 1
        self.same(desk.claimed("c"), ("closed", "f", {(1, 0): (1, 2), (2, 0): 1}))
        desk.claimed("c")[2].clear()
        self.same(desk.claimed("c"), ("closed", "f", {(1, 0): (1, 2), (2, 0): 1}))
        self.same(desk.keep("f", BALL), 3)


def ascending(claim):
    return claim[:2] + ({key: claim[2][key] for key in sorted(claim[2])},) if claim[0] == "closed" else claim


class DeedsTest(Case):
    def test_deeds_that_are_refused(self):
        # [19.3]: the least label, and nothing is changed
        desk = filled()
        desk.claim("d", ("letters", "g", TWIST.letters))
        desk.claim("c", ("equal", "f", "f"))
        desk.claim("ab", ("plain", "f"))
        desk.undo()
        desk.redo()
        before = state(desk)
        for deed, label in [
            (lambda: desk.keep("f", KNOT), "a"), (lambda: desk.keep("f", HALF), "ab"), (lambda: desk.drop("f"), "a"), (lambda: desk.cut("f", 1), "a"),
            (lambda: desk.cut("f", 0), "b"), (lambda: desk.keep("f", PLANE), None), (lambda: desk.put_beside("f", "f", "f"), "b"), (lambda: desk.drop("g"), "d"),
            (lambda: desk.grow("g", 3, {}), "d"), (lambda: desk.keep("f", Tower((4, 7), ({}, {(2, 0): 1}))), "b"), (lambda: desk.make_plain("g"), None),
            (lambda: desk.claim("e", ("classes", "f", 3, 1)), "e"), (lambda: desk.claim("aa", ("equal", "f", "g")), "aa"),
        ]:
            if label is None:
                self.same(deed(), before[2] + 1)
                desk.undo()
            else:
                self.fails("Refused", ("claim", label), deed)
            self.same(state(desk), before)
        self.same(desk.redo(times=0), before[2])

    def test_a_refused_deed_keeps_what_was_taken_back(self):
        desk = filled()
        desk.undo(times=2)
        self.fails("UnknownName", "x", desk.drop, "x")
        self.fails("Refused", ("claim", "c"), desk.claim, "c", ("plain", "g"))
        self.same([desk.deeds, desk.redo(times=2), desk.labels], [2, 4, ("a", "b")])

    def test_deeds_that_leave_all_as_it_is(self):
        desk = filled()
        before = state(desk)[3:5]
        self.same([desk.keep("f", BALL), desk.make_plain("f"), desk.cut("f", 2), desk.keep("f", BALL)], [5, 6, 7, 8])
        self.same(state(desk)[3:5], before)
        self.same(desk.undo(times=4), 4)

    def test_undo_and_redo(self):
        desk = Desk()
        states = [state(desk)]
        for deed in [lambda: desk.keep("f", BALL), lambda: desk.claim("a", ("ends", "f")), lambda: desk.put_beside("g", "f", "f"), lambda: desk.make_plain("g"),
                     lambda: desk.grow("g", 5, {}), lambda: desk.cut("g", 3), lambda: desk.let_go("a"), lambda: desk.drop("f")]:
            self.same(deed(), len(states))
            states.append(state(desk))
        last = len(states) - 1
        for times in range(last + 1):
            self.same(desk.undo(times=times), last - times)
            self.same(state(desk), states[last - times])
            self.fails("NothingToUndo", last - times + 1, desk.undo, times=last - times + 1)
            self.fails("NothingToUndo", times + 1, desk.redo, times=times + 1)
            self.same(desk.redo(times=times), last)
            self.same(state(desk), states[last])
        for value in (-1, None, True, False, "1", (1,), LONGER, -LONGER, [1]):
            self.fails("InvalidNumber", value, desk.undo, times=value)
            self.fails("InvalidNumber", value, desk.redo, times=value)
        self.fails("NothingToUndo", SIXTY, desk.undo, times=SIXTY)
        with self.assertRaises(TypeError):
            desk.undo(1)
        self.same([desk.undo(), desk.undo(), desk.redo(), desk.undo(times=3)], [last - 1, last - 2, last - 1, last - 4])
        # a further deed ends what can be done again
        self.same(desk.keep("h", KNOT), last - 3)
        self.fails("NothingToUndo", 1, desk.redo)
        self.same(desk.undo(times=last - 3), 0)
        self.same(state(desk), states[0])
        self.same(desk.redo(times=last - 3), last - 3)
        self.assertEqual(desk.tower("h"), KNOT)

    def test_during(self):
        desk = filled()
        desk.undo()
        before = state(desk)

        def much(inner):
            self.assertIs(inner, desk)
            inner.undo(times=3)
            inner.keep("x", KNOT)
            inner.claim("q", ("letters", "x", (1, 1, 1)))
            return state(inner)

        told = desk.during(much)
        self.same(told[:3], (("x",), ("q",), 2))
        self.same(state(desk), before)
        self.same(desk.redo(), 4)
        desk.undo()

        def nested(inner):
            inner.keep("y", BALL)
            self.same(inner.during(much)[2], 3)
            return inner.names

        self.same(desk.during(nested), ("f", "g", "y"))
        self.same((state(desk), desk.redo(), desk.undo()), (before, 4, 3))

        def failing(inner):
            inner.undo(times=2)
            inner.keep("z", BALL)
            inner.drop("nix")

        self.fails("UnknownName", "nix", desk.during, failing)
        self.same(state(desk), before)
        with self.assertRaises(ZeroDivisionError):
            desk.during(lambda inner: inner.undo() // 0)
        self.same((state(desk), desk.redo(), desk.undo()), (before, 4, 3))
        self.assertIs(desk.during(lambda inner: None), None)
        twins = []
        desk.during(lambda inner: (inner.keep("w", KNOT), twins.append(inner.twin())))
        self.assertEqual(twins[0].tower("w"), KNOT)
        self.assertNotEqual(twins[0], desk)
        self.same(desk.during(Desk.twin).names, desk.names)

    def test_twins(self):
        desk = filled()
        desk.undo()
        twin = desk.twin()
        self.assertEqual(twin, desk)
        self.assertIsNot(twin, desk)
        self.same(state(twin), state(desk))
        self.same([twin.redo(), desk.deeds, twin == desk], [4, 3, False])
        self.same([desk.redo(), twin == desk], [4, True])
        twin.keep("h", KNOT)
        twin.undo(times=5)
        self.same((desk.deeds, desk.names, twin.names), (4, ("f", "g"), ()))
        desk.keep("x", KNOT)
        self.same(twin.redo(times=5), 5)
        self.same((twin.names, desk.names), (("f", "g", "h"), ("f", "g", "x")))
        self.fails("NothingToUndo", 1, twin.redo)

    def test_equal_desks(self):
        one, other = filled(), Desk()
        self.assertIs(one == other, False)
        other.keep("g", TWIST)
        other.keep("f", PLANE)
        other.claim("b", ("classes", "f", 2, 1))
        other.keep("f", BALL)
        self.assertIs(one != other, True)
        other.claim("a", ("ends", "f"))
        # other deeds, equal towers and claims
        self.same((one == other, one.deeds, other.deeds), (True, 4, 5))
        other.let_go("a")
        other.claim("a", ("plain", "f"))
        self.assertIs(one == other, False)
        other.undo(times=2)
        self.assertIs(one == other, True)
        other.keep("g", plain_tower(TWIST))
        self.assertIs(one == other, False)
        for value in any_values():
            self.assertIs(one == value, False)
            self.assertIs(one != value, True)


class PlainClaimsTest(Case):
    def test_making_a_tower_plain_keeps_claims(self):
        # [19.4]
        for tower in (BALL, PLANE, TWIST, BENT, HALF, EMPTY, sphere(6), projective(2, 3), beside(TWIST, BALL)):
            desk = Desk()
            desk.keep("f", tower)
            desk.claim("a", ("letters", "f", tower.letters))
            if does_end(tower):
                desk.claim("b", ("ends", "f"))
            if tower.is_plain:
                desk.claim("c", ("plain", "f"))
            before = desk.deeds
            self.same(desk.make_plain("f"), before + 1)
            self.assertIs(desk.tower("f").is_plain, True)
        desk = Desk()
        desk.keep("f", HALF)
        self.same(class_count(HALF, 5), 0)
        desk.claim("k", ("classes", "f", 5, 0))
        self.fails("Refused", ("claim", "k"), desk.make_plain, "f")

    def test_claims_with_words_keep_the_number_of_letters(self):
        # [19.4]
        desk = Desk()
        desk.keep("f", BALL)
        desk.claim("w", ("closed", "f", {(1, 0): 1}))
        for deed in (lambda: desk.cut("f", 1), lambda: desk.grow("f", 3, {}), lambda: desk.put_beside("f", "f", "f"), lambda: desk.keep("f", EMPTY)):
            self.fails("Refused", ("claim", "w"), deed)
        self.same([desk.keep("f", PLANE), desk.make_plain("f"), desk.keep("f", Tower((4, 2), ({}, {})))], [3, 4, 5])
        desk.let_go("w")
        desk.claim("w", ("closed", "f", {}))
        self.same([desk.cut("f", 1), desk.cut("f", 0)], [8, 9])

    def test_many_deeds_by_chance(self):
        some = random.Random(5)
        towers = [BALL, PLANE, KNOT, HALF, TWIST, EMPTY]
        desk, past, ahead = Desk(), [], []
        for _ in range(300):
            name = some.choice("fgh")
            deed = some.choice([
                lambda: desk.keep(name, some.choice(towers)), lambda: desk.drop(name), lambda: desk.make_plain(name), lambda: desk.cut(name, some.randint(0, 3)),
                lambda: desk.put_beside(name, some.choice("fgh"), some.choice("fgh")), lambda: desk.grow(name, 3, {}), lambda: desk.let_go(some.choice("abc")),
                lambda: desk.claim(some.choice("abc"), some.choice([("plain", name), ("equal", name, "f"), ("classes", name, 2, 1), ("letters", name, (2, 3))])),
                "undo", "redo", "undo"])
            before = state(desk)
            if deed == "undo":
                if past:
                    ahead.append(before)
                    desk.undo()
                    self.same(state(desk), past.pop())
                else:
                    self.fails("NothingToUndo", 1, desk.undo)
            elif deed == "redo":
                if ahead:
                    past.append(before)
                    desk.redo()
                    self.same(state(desk), ahead.pop())
                else:
                    self.fails("NothingToUndo", 1, desk.redo)
            else:
                try:
                    told = deed()
                except Exception:
                    self.same(state(desk), before)
                    continue
                past.append(before)
                ahead = []
                self.same((told, desk.deeds), (len(past), len(past)))
            for label in desk.labels:
                self.assertTrue(is_true(desk, desk.claimed(label)))


def is_true(desk, claim):
    """Whether a claim is true, by what the towers tell."""
    tower = desk.tower(claim[1])
    if claim[0] == "equal":
        return tower == desk.tower(claim[2])
    if claim[0] == "plain":
        return plain_tower(tower) == tower
    if claim[0] == "letters":
        return tower.letters == claim[2]
    if claim[0] == "closed":
        return not tower.step(Sum(tower.letters, claim[2]))
    return class_count(tower, claim[2]) == claim[3]


if __name__ == "__main__":
    unittest.main()
