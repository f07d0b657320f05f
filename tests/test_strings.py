"""Stage 20, texts: [20.1] to [20.6]."""

import random
import unittest

from stepletters.algebras.algebras import Algebra, beside_algebras, connected
from stepletters.algebras.least import least_tower
from stepletters.built.built import flags, projective, spaces, sphere
from stepletters.text import strings
from stepletters.text.strings import is_text, kind_of_text, read_value, write_value
from stepletters.towers.towers import Tower
from stepletters.words.sums import Sum
from stepletters.words.words import each_word
from support import BALL, BENT, BOTH, EMPTY, HALF, HUGE, KNOT, LONGER, PLANE, SIXTY, TWIST, Case, any_values

CP2 = Algebra((2, 4), {(0, 0): {1: 1}})
TEXTS = [
    ("letters", (2, 3, 3), "letters 2 3 3"), ("letters", (), "letters"), ("letters", (40,) * 24, "letters" + " 40" * 24), ("letters", (1,), "letters 1"),
    ("integers", (1, 0, -2), "integers 1 0 -2"), ("integers", (), "integers"), ("integers", (SIXTY, -SIXTY), f"integers {SIXTY} {-SIXTY}"),
    ("integers", (7,) * 400, "integers" + " 7" * 400), ("ratio", (-3, 2), "ratio -3/2"), ("ratio", (0, 1), "ratio 0"), ("ratio", (2, 1), "ratio 2"),
    ("ratio", (-SIXTY, 10 ** 59), f"ratio {-SIXTY}/{10 ** 59}"), ("ratio", (1, SIXTY), f"ratio 1/{SIXTY}"), ("ratio", (-10, 1), "ratio -10"),
    ("sum", Sum((2, 3), {(2, 0): (1, 2), (0, 1): -1}), "sum 2 3 ; -1 : 0 1 ; 1/2 : 2 0"), ("sum", Sum((2, 3), {}), "sum 2 3"), ("sum", Sum((), {}), "sum"),
    ("sum", Sum((), {(): 5}), "sum ; 5 :"), ("sum", Sum((2,), {(200,): -SIXTY}), f"sum 2 ; {-SIXTY} : 200"), ("sum", Sum((1, 2), {(1, 0): 1}), "sum 1 2 ; 1 : 1 0"),
    ("tower", BALL, "tower 2 3 | 1 ; 1 : 2 0"), ("tower", EMPTY, "tower"), ("tower", KNOT, "tower 1 1 1 | 2 ; 1 : 1 1 0"), ("tower", PLANE, "tower 2 5 | 1 ; 2 : 3 0"),
    ("tower", TWIST, "tower 2 3 3 3 5 | 1 ; 2/3 : 2 0 0 0 0 | 4 ; 1 : 0 0 1 1 0 ; -1 : 3 0 0 0 0"), ("tower", Tower((3, 3), ({}, {})), "tower 3 3"),
    ("tower", BENT, "tower 2 2 3 3 4 | 2 ; 1 : 2 0 0 0 0 | 3 ; 1 : 1 1 0 0 0 | 4 ; 1 : 0 1 1 0 0 ; -1 : 1 0 0 1 0"),
    ("algebra", CP2, "algebra 2 4 | 0 0 ; 1 : 1"), ("algebra", Algebra((), {}), "algebra"), ("algebra", Algebra((2, 20), {}), "algebra 2 20"),
    ("algebra", connected(CP2, CP2), "algebra 2 2 4 | 0 0 ; 1 : 2 | 1 1 ; 1 : 2"),
    ("algebra", Algebra((2, 2, 4, 4), {(0, 1): {3: (-1, 2), 2: 7}, (1, 1): {2: 1}}), "algebra 2 2 4 4 | 0 1 ; 7 : 2 ; -1/2 : 3 | 1 1 ; 1 : 2"),
    ("algebra", Algebra((3, 5, 8), {(0, 1): {2: (2, 3)}}), "algebra 3 5 8 | 0 1 ; 2/3 : 2"),
]
NOT_INTEGERS = ["", "-", "-0", "01", "-01", "00", "+1", "1.0", "1e3", "0x1", "1_0", " 1", "\t1", "1\n", "\n", "x", "1/1", "2/4", "0/3", "/", "1/", "/2", "--1", "1-",
                "\u0661", "\u00b2", "\uff11", str(LONGER), "-" + str(LONGER), "1" * 300, "0" * 60, ";", ":", "|", "None", "\u00a0", "1\u00a0"]
NOT_RATIOS = NOT_INTEGERS + ["3/02", "3/-2", "-3/-2", "6/4", "0/1", "0/2", "1/0", "3/1", "-1/1", "1/2/3", "1//2", "+1/2", "01/2",
                                                 f"1/{LONGER}", f"{LONGER}/7", "-0/2", "1/2x", "1/\u0662"]


def spots(text):
    """The spot of a string that is no text, None for a text."""
    try:
        read_value(text)
    except ValueError as error:
        return error.spot
    return None


class WriteTest(Case):
    def test_constants(self):
        self.same([strings.MAX_TEXT, strings.MAX_INTEGERS, strings.KINDS], [20000, 400, ("letters", "integers", "ratio", "sum", "tower", "algebra")])

    def test_texts(self):
        # [20.3] and [20.5]
        for kind, value, text in TEXTS:
            self.same(write_value(value, kind=kind), text)
            self.same(kind_of_text(text), kind)
            self.assertEqual(read_value(text), value)
            self.assertIs(type(read_value(text)), type(value))
            self.assertIs(is_text(text), True)
            self.same(write_value(read_value(text), kind=kind_of_text(text)), text)

    def test_one_value_of_three_kinds(self):
        # [20.5]
        self.same([write_value((2, 1), kind=kind) for kind in ("letters", "integers", "ratio")], ["letters 2 1", "integers 2 1", "ratio 2"])
        self.same([read_value(text) for text in ("letters 2 1", "integers 2 1", "ratio 2")], [(2, 1)] * 3)

    def test_values_by_chance(self):
        # [20.5]
        some = random.Random(1)
        for _ in range(60):
            letters = tuple(some.randint(1, 7) for _ in range(some.randint(0, 5)))
            words = list(each_word(letters, 9))
            chosen = some.sample(words, min(len(words), some.randint(0, 9)))
            a_sum = Sum(letters, {word: some.choice([1, -1, (1, 2), (-7, 3), SIXTY, (1, SIXTY)]) for word in chosen})
            text = write_value(a_sum, kind="sum")
            self.assertEqual((read_value(text), kind_of_text(text)), (a_sum, "sum"))
            self.same(write_value(letters, kind="letters"), " ".join(["letters"] + [str(letter) for letter in letters]))
        for tower in (BOTH, HALF, flags(4), spaces(2, 5), sphere(20), projective(12, 2), least_tower(CP2, 7)[0]):
            text = write_value(tower, kind="tower")
            self.assertEqual((read_value(text), kind_of_text(text)), (tower, "tower"))
        for algebra in (beside_algebras(CP2, CP2), beside_algebras(CP2, Algebra((3, 3, 6), {(0, 1): {2: (5, 9)}})), Algebra((20,) * 24, {})):
            text = write_value(algebra, kind="algebra")
            self.assertEqual((read_value(text), kind_of_text(text)), (algebra, "algebra"))

    def test_unknown_kinds(self):
        for kind in any_values() + ["letter", "LETTERS", "sums", "letters ", ["sum"], ("sum",), {"sum": 1}]:
            self.fails("UnknownName", kind, write_value, None, kind=kind)
            self.fails("UnknownName", kind, write_value, (2, 1), kind=kind)
        with self.assertRaises(TypeError):
            write_value((2, 1), "letters")

    def test_values_of_other_kinds(self):
        right = {kind: [value for told, value, _ in TEXTS if told == kind] for kind in strings.KINDS}
        for value in any_values():
            for kind in ("sum", "tower", "algebra"):
                fits = isinstance(value, {"sum": Sum, "tower": Tower, "algebra": Algebra}[kind])
                if not fits:
                    self.fails("InvalidOperation", None, write_value, value, kind=kind)
                else:
                    self.assertEqual(read_value(write_value(value, kind=kind)), value)
        for kind, wrong in [
            ("letters", ((0,), (41,), (2,) * 25, [2], (True,), (2, 3.0), None, "2", (LONGER,), BALL, (2, (3,)), {})),
            ("integers", ((0,) * 401, [1], (True, 2), (1, None), None, 7, "1", ((1, 2),), (1, "2"), {1: 2})),
            ("ratio", ((2, 4), (1, 0), (1, -1), (True, 1), (1, True), (1,), (1, 2, 3), [1, 2], 1, None, "1/2", (LONGER * 2, LONGER * 4))),
        ]:
            for value in wrong:
                self.fails("InvalidOperation", None, write_value, value, kind=kind)
        for kind in strings.KINDS:
            for other in ("sum", "tower", "algebra"):
                for value in right[other] if other != kind else []:
                    self.fails("InvalidOperation", None, write_value, value, kind=kind)

    def test_long_integers_and_texts(self):
        for value in ((LONGER,), (1, -LONGER), (HUGE ** 9,), (SIXTY + 1, 1)):
            self.fails("TooMany", 60, write_value, value, kind="integers")
        for value in ((LONGER, 7), (1, LONGER + 1), (-HUGE ** 5, 1), (LONGER ** 3 + 1, LONGER)):
            self.fails("TooMany", 60, write_value, value, kind="ratio")
        long = Sum((2,), {(1,): SIXTY}) * SIXTY
        self.fails("TooMany", 60, write_value, long, kind="sum")
        self.fails("TooMany", 60, write_value, Sum((2,), {(1,): (1, SIXTY)}) * (1, SIXTY), kind="sum")
        wide = Algebra((2, 2, 2, 4, 4), {(0, 0): {3: SIXTY, 4: 1}, (0, 1): {3: 2, 4: -SIXTY}, (1, 1): {3: SIXTY - 4, 4: 9}, (2, 2): {4: SIXTY - 1},
                                         (1, 2): {3: -5, 4: SIXTY - 10}})
        self.assertEqual(read_value(write_value(wide, kind="algebra")), wide)
        self.fails("TooMany", 60, write_value, least_tower(wide, 3)[0], kind="tower")
        # exactly 400 words, and more; more words are told ahead of long integers
        words = list(each_word((1, 1, 1, 2, 2), 80))
        exact = Sum((1, 1, 1, 2, 2), {word: 1 for word in words[:400]})
        more = exact + Sum((1, 1, 1, 2, 2), {words[400]: 1})
        self.assertEqual(read_value(write_value(exact, kind="sum")), exact)
        self.fails("TooMany", 400, write_value, more, kind="sum")
        self.fails("TooMany", 400, write_value, more * SIXTY * SIXTY, kind="sum")
        self.fails("TooMany", 60, write_value, exact * SIXTY * SIXTY, kind="sum")
        # texts of exactly 20,000 characters, and of more
        for numbers, length in (((10 ** 49,) * 392, 20000), ((10 ** 49,) * 391 + (10 ** 50,), 20001)):
            text = " ".join(["integers"] + [str(number) for number in numbers])
            self.same(len(text), length)
            if length == 20000:
                self.same(write_value(numbers, kind="integers"), text)
                self.same(read_value(text), numbers)
            else:
                self.fails("TooMany", 20000, write_value, numbers, kind="integers")
                self.fails("ParseError", 0, read_value, text)
        self.fails("TooMany", 20000, write_value, exact * (SIXTY, 10 ** 59), kind="sum")

    def test_words_of_high_degrees(self):
        # words that are passed have a degree of at most 400, so no text tells such a sum
        high = Sum((2,), {(200,): 1}) * Sum((2,), {(1,): 1})
        self.fails("InvalidOperation", None, write_value, high, kind="sum")
        self.same(spots("sum 2 ; 1 : 201"), 6)


class SpotsTest(Case):
    def test_values_that_are_no_strings(self):
        for value in any_values():
            if not isinstance(value, str) or value != "letters 2":
                self.assertIs(is_text(value), False)
                self.fails("ParseError", 0, read_value, value)
                self.fails("ParseError", 0, kind_of_text, value)
        for text in ("", " ", "letter", "Letters 2", " letters 2", "letters\t2", "letters\n2", "2", "sum;", "towers 2", "x" * 20001, "letters" + " " * 19999):
            self.fails("ParseError", 0, read_value, text)
            self.fails("ParseError", 0, kind_of_text, text)
            self.assertIs(is_text(text), False)
        self.fails("ParseError", 0, read_value, "integers" + " 10" * 6664 + " ")
        self.fails("ParseError", 401, read_value, "integers" + " 10" * 6664)

    def test_told_spots(self):
        # [20.4]
        for text, spot in [
            ("letters 0", 1), ("letters 41", 1), ("letters 2 3 -1", 3), ("letters ", 1), ("letters  2", 1), ("letters 2 ", 2), ("letters 2  3", 2),
            ("letters" + " 2" * 25, 25), ("letters" + " 2" * 24 + " x", 25), ("letters 2 ;", 2), ("letters 2 3 03 0", 3), ("letters 2\t3", 1),
            ("integers" + " 1" * 401, 401), ("integers" + " 1" * 400 + " ", 401), ("integers 1 x 2 y", 2), ("integers -", 1), ("integers 1 -0", 2),
            (f"integers 1 {LONGER}", 2), ("ratio", 1), ("ratio ", 1), ("ratio 1 2", 2), ("ratio 1 ", 2), ("ratio x 2", 1), ("ratio 2/4", 1), ("ratio 1/1", 1),
            ("ratio 0/3", 1), ("ratio -0", 1), ("sum 3 ; 1 : 2", 5), ("sum 2 ; 0 : 1", 3), ("sum 2 ; 1", 4), ("sum 2 ;", 3), ("sum 2 ; 1 :", 5), ("sum ; 1", 3),
            ("sum ; 1 : 0", 4), ("sum ; 1 : ;", 5), ("sum ; 1 : ; 1 :", 7), ("sum 2 3 ; 1 : 1", 7), ("sum 2 3 ; 1 : 1 0 0", 8), ("sum 2 3 ; 1 : 1 0 ; 1 : 0 1", 13),
            ("sum 2 3 ; 1 : 1 0 ; 1 : 1 0", 13), ("sum 2 3 ; 1 1 0", 5), ("sum 2 3 1 : 1 0", 4), ("sum 41 ; 1 : 1", 1), ("sum" + " 2" * 25, 25), ("sum |", 1),
            ("sum 2 ; 1 : -1", 5), ("sum 2 ; 1 : 201", 6), ("sum 2 ; 1 : " + str(SIXTY), 6), ("sum 2 ; 1 : " + str(LONGER), 5), ("sum 2 ; 1 ; 1", 4),
            ("sum 2 ; 2/2 : 1", 3), ("sum 2 ; 1 : 1 |", 6), ("sum 2 ; 1 : 1 ; ", 7), ("sum 2 ; 1 : 1  ;", 6), ("sum 2 ; ; 1", 3), ("sum 3 2 ; 1 : 2 x", 6),
            ("tower 2 3 | 1 ; 1 : 1 0", 10), ("tower 2 3 |", 4), ("tower 2 3 | 2", 4), ("tower 2 3 | 1", 5), ("tower 2 3 | 1 ;", 6), ("tower 2 3 | 1 |", 5),
            ("tower 2 3 ; 1", 3), ("tower 2 3 | 1 ; 1 : 2 0 | 1 ; 1 : 2 0", 17), ("tower 2 3 | 1 ; 1 : 2 0 | 0 ; 1 : 0 1", 17), ("tower |", 2), ("tower | 0", 2),
            ("tower 2 3 | 1 ; 0 : 2 0", 6), ("tower 2 3 | 1 ; 1 : 2 2", 9), ("tower 2 3 | 1 ; 1 : 2 0 ; 1 : 2 0", 15), ("tower 2 3 | 1 ; 1 : 2 0 x", 10),
            ("tower 2 3 4 | 1 ; 1 : 2 0 0 | 2 ; 1 : 1 1 0", 20), ("tower 2 3 | -1", 4), ("tower 2 3 | 01", 4), ("tower 2 3 | 1 1 ; 1", 5), ("tower 0", 1),
            ("tower 2 3 | 0 ; 1 : 0 1", 10), ("tower 2 3 | 1 ; 1 : 2 0 | 1", 12), ("tower 2 3 | | 1", 4), ("tower 2 3 | 1 ; 1 : 2 0 |", 11),
            ("algebra 1", 1), ("algebra 21", 1), ("algebra 4 2", 3), ("algebra 4 2 x", 3), ("algebra 2 4 | 0 0 ; 1 : 0", 10), ("algebra 2 4 | 0 0 ; 1 : 2", 9),
            ("algebra 2 4 | 1 0 ; 1 : 1", 5), ("algebra 2 4 | 0 2", 5), ("algebra 2 4 | 2", 4), ("algebra 2 4 | 0 0", 6), ("algebra 2 4 | 0", 5),
            ("algebra 2 4 | 0 0 ; 0 : 1", 7), ("algebra 2 4 | 0 0 ; 1 : 1 ; 1 : 1", 14), ("algebra 2 4 | 0 0 ; 1 : 1 | 0 0 ; 1 : 1", 17), ("algebra |", 2),
            ("algebra 3 6 | 0 0 ; 1 : 1", 10), ("algebra 2 2 4 6 | 0 0 ; 1 : 2 | 1 2 ; 1 : 3", 19), ("algebra" + " 2" * 25, 25), ("algebra 2 4 | 0 0 |", 6),
            ("algebra 2 4 | 0 0 ; 1 : 1 1", 10), ("algebra 2 4 ; 0", 3), ("algebra 2 2 4 4 | 0 0 ; 1 : 3 ; 1 : 2", 16),
            ("algebra 2 2 4 | 0 1 ; 1 : 2 | 0 0 ; 1 : 2", 18), ("algebra 2 2 4 | 0 1 ; 1 : 2 | 0 0 ; 1 : 9", 17),
        ]:
            self.same(spots(text), spot)
            self.assertIs(is_text(text), False)
            self.fails("ParseError", spot, kind_of_text, text)

    def test_parts_that_cannot_stand(self):
        # each part of a text, changed into one that can stand at no place or at no such place
        for kind, _, text in TEXTS:
            parts = text.split(" ")
            if len(parts) > 60:
                continue
            for at, part in enumerate(parts):
                for wrong in ("", "x", "01", "-0", "+1", "1/1", "2/4", "1/-2", "\t", "\u0663", str(LONGER), part + "x", part + "\n", " " + part, "-", "0" * 61, "1/0"):
                    told = at if at > 0 else 0
                    self.same(spots(" ".join(parts[:at] + [wrong] + parts[at + 1:])), told)
            # two blanks side by side, and one at an end
            for at in range(len(parts) + 1):
                self.same(spots(" ".join(parts[:at] + [""] + parts[at:])), at)

    def test_parts_that_are_missing(self):
        # [20.6]: a text without its last part is no text, but some are
        ends = {True: 0, False: 0}
        for kind, _, text in TEXTS:
            parts = text.split(" ")
            whole = [at for at in range(1, len(parts)) if can_end(kind, parts[:at])]
            for at in range(1, len(parts)):
                short = " ".join(parts[:at])
                if at in whole and spots(short) is None:
                    self.same(write_value(read_value(short), kind=kind), short)
                    ends[True] += 1
                else:
                    self.same(spots(short), at)
                    ends[False] += 1
        self.assertGreater(min(ends.values()), 30)

    def test_integer_parts(self):
        for part in NOT_INTEGERS:
            if " " not in part:
                self.same(spots("integers 7 " + part + " 8"), 2)
                self.same(spots("letters 7 " + part), 2)
                self.same(spots("sum 2 ; 1 : " + part), 5)
                self.same(spots("tower 2 3 | " + part), 4)
                self.same(spots("algebra 2 4 | 0 " + part), 5)
        for number in (0, 7, -7, 10, -10, SIXTY, -SIXTY, 10 ** 59):
            self.same(read_value(f"integers {number}"), (number,))

    def test_number_parts(self):
        for part in NOT_RATIOS:
            if " " not in part:
                self.same(spots("ratio " + part), 1)
                self.same(spots("sum 2 ; " + part + " : 1"), 3)
                self.same(spots("tower 2 3 | 1 ; " + part + " : 2 0"), 6)
                self.same(spots("algebra 2 4 | 0 0 ; " + part + " : 1"), 7)
        for part, value in (("1/2", (1, 2)), ("-1/2", (-1, 2)), ("7", (7, 1)), ("-7", (-7, 1)), (f"{SIXTY}/2", (SIXTY, 2)), (f"-1/{SIXTY}", (-1, SIXTY))):
            self.same(read_value("ratio " + part), value)
            self.same(read_value(f"sum 2 ; {part} : 1").terms, {(1,): value})
        # 0 stands in `ratio` alone
        self.same([spots("ratio 0"), spots("sum 2 ; 0 : 1"), spots("tower 2 3 | 1 ; 0 : 2 0"), spots("algebra 2 4 | 0 0 ; 0 : 1")], [None, 3, 6, 7])

    def test_bounds(self):
        self.same(read_value("letters" + " 40" * 24), (40,) * 24)
        self.same(read_value("algebra" + " 20" * 24).degrees, (20,) * 24)
        self.same(spots("algebra" + " 20" * 24 + " 20"), 25)
        self.same(spots("tower" + " 3" * 24 + " 3"), 25)
        self.same(spots("tower" + " 3" * 24 + " |"), 26)
        self.same(len(read_value("integers" + " -5" * 400)), 400)
        # 400 words in a sum and in a step, and 401
        for many in (400, 401):
            letters = (1,) * 12
            words = [word for word in each_word(letters, 6) if sum(word) == 6][:many]
            self.assertEqual(len(words), many)
            text = "sum " + " ".join(["1"] * 12) + "".join(" ; 1 : " + " ".join(map(str, word)) for word in sorted(words))
            self.same(spots(text), None if many == 400 else 13 + many * 15)
            step = "tower " + " ".join(["1"] * 12 + ["5"]) + " | 12" + "".join(" ; 1 : " + " ".join(map(str, word + (0,))) for word in sorted(words))
            self.same(spots(step), None if many == 400 else 16 + many * 16)
            self.assertLessEqual(len(step), 20000)
        self.same(spots("sum 2 ; 1 : 200"), None)
        self.same(spots("sum 1 2 ; 1 : 1 200"), 9 - 1)


def can_end(kind, parts):
    """Whether parts of a text can be a whole one: behind degrees, or behind a term."""
    if kind in ("letters", "integers"):
        return True
    if kind == "ratio":
        return False
    if not any(sign in parts for sign in (";", ":", "|")):
        return True
    if parts[-1] in (";", ":", "|"):
        # a term without letters ends with its sign
        return kind == "sum" and parts[-1] == ":" and parts[1] == ";"
    behind = parts[len(parts) - parts[::-1].index(":"):] if ":" in parts else []
    last = max(at for at, part in enumerate(parts) if part in (";", ":", "|"))
    size = 1 if kind == "algebra" else min(at for at, part in enumerate(parts) if part in (";", "|")) - 1
    return parts[last] == ":" and len(behind) == size


if __name__ == "__main__":
    unittest.main()
