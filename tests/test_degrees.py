"""Stage 10, degrees alone: [10.1] to [10.6], with [0.16]."""

import itertools
import unittest

from stepletters.plain import degrees
from stepletters.plain.degrees import barring_lots, can_end, degrees_paper, is_degrees_paper, is_made
from stepletters.plain.ends import does_end, top_degree
from stepletters.towers.towers import Tower, made_tower
from stepletters.words.words import word_count
from support import BALL, HUGE, LONGER, SIXTY, Case, any_values, fraction, slow_even_rank, slow_words

# rows of degrees with classes that can end
OPEN = [((), ()), ((), (3, 5)), ((2,), (3,)), ((2,), (5,)), ((2,), (3, 5)), ((2, 4), (7, 5)), ((4, 6), (9, 23)),
        ((6, 4), (23, 9)), ((2, 2), (3, 3)), ((2, 2, 2), (3, 3, 3)), ((2, 2, 2), (3, 5, 3, 7)), ((2, 4, 6, 8), (9, 11, 13, 15)),
        ((2, 2), (5, 9, 3)), ((6, 10), (15, 29)), ((10,), (19, 3, 3)), ((4, 4), (7, 15)), ((12, 8), (23, 39)),
        ((2, 4, 4), (3, 7, 7)), ((2, 6), (7, 11)), ((2, 4, 8, 2), (3, 7, 15, 3))]
BARRED = [((2,), ()), ((4, 6), (9, 9)), ((2, 2), (3,)), ((4, 6), (9, 13)), ((6,), (9,)), ((40,), (39,)), ((40,), ()),
          ((2, 2, 2), (3, 3)), ((4, 6, 10), (13, 15, 23)), ((4,), (5, 9, 13)), ((2, 40), (39, 39)), ((6, 10), (15, 17)), ((2,) * 6, (3,) * 5)]


def slow_made(number, row):
    """Whether a number is a sum of at least two of some degrees, by trying."""
    for many in range(2, number + 1):
        for parts in itertools.combinations_with_replacement(sorted(set(row)), many):
            if sum(parts) == number:
                return True
    return False


def slow_lots(evens, odds):
    """All lots that bar."""
    found = []
    for many in range(1, len(evens) + 1):
        for lot in itertools.combinations(range(len(evens)), many):
            row = [evens[index] for index in lot]
            if sum(slow_made(odd + 1, row) for odd in odds) < many:
                found.append(lot)
    return tuple(sorted(found))


def tower_of(evens, odds, steps):
    """The tower that a paper tells."""
    rest = (0,) * len(odds)
    dicts = [{} for _ in evens]
    for step in steps:
        dicts.append({word + rest: number if isinstance(number, tuple) else (number, 1) for word, number in step.items()})
    return made_tower(evens + odds, dicts)


class LotsTest(Case):
    def test_constants(self):
        self.same((degrees.MAX_EVENS, degrees.MAX_ODDS, degrees.MAX_SHOWN, degrees.MAX_LISTED), (6, 10, 80, 150))

    def test_made_integers(self):
        for row in [(), (1,), (2,), (4, 6), (5, 7), (3, 3), (6, 10, 15), (9,), (2, 3), (40, 39), (7, 4, 10)]:
            for number in range(22):
                self.assertIs(is_made(number, row), slow_made(number, row))
        for number, row, wanted in [(1000, (1,), True), (1000, (40,), True), (999, (40,), False), (1000, (3,), False),
                                    (1000, (39, 40), True), (0, (), False), (0, (1,) * 6, False), (2, (1,), True),
                                    (1, (1,), False), (80, (40,), True), (40, (40,), False), (40, (40, 20), True)]:
            self.assertIs(is_made(number, row), wanted)

    def test_errors_of_made_integers(self):
        for value in (None, True, False, -1, 1001, LONGER, -LONGER, "3", (3,), [3], {}, BALL, HUGE):
            self.fails("InvalidNumber", value, is_made, value, None)
        for value in (None, 3, True, [2], (0,), (41,), (True,), (2,) * 7, (2, -2), (2, None), ("2",), {}, ((2,),), BALL, (HUGE,)):
            self.fails("InvalidLetters", None, is_made, 4, value)

    def test_lots(self):
        for evens, odds in OPEN + BARRED:
            self.same(barring_lots(evens, odds), slow_lots(evens, odds))
            self.assertIs(can_end(evens, odds), slow_lots(evens, odds) == ())
        for evens, odds in OPEN:
            self.assertIs(can_end(evens, odds), True)
        for evens, odds in BARRED:
            self.assertIs(can_end(evens, odds), False)
        for evens in itertools.combinations_with_replacement((2, 4, 6, 10), 2):
            for odds in itertools.product((3, 5, 7, 9, 11, 15), repeat=2):
                self.same(barring_lots(evens, odds), slow_lots(evens, odds))

    def test_order_and_repeats(self):
        self.same(barring_lots((4, 6, 4), (9, 7)), slow_lots((4, 6, 4), (9, 7)))
        self.same(barring_lots((2, 2, 2), ()), ((0,), (0, 1), (0, 1, 2), (0, 2), (1,), (1, 2), (2,)))
        self.same(barring_lots((2,) * 6, (3,) * 5), ((0, 1, 2, 3, 4, 5),))
        self.same(len(barring_lots((40,) * 6, (3,) * 10)), 63)
        self.same([barring_lots((), ()), barring_lots((), (3,) * 10)], [(), ()])
        self.same([can_end((2, 4), (5, 7)), can_end((4, 2), (7, 5)), can_end((2, 4), (7, 5, 39, 3))], [True] * 3)
        self.same([can_end((20,), (39,)), can_end((40,), (39,)), can_end((2,) * 6, (39,) * 10)], [True, False, True])

    def test_what_follows_if_no_lot_bars(self):
        # [10.4]
        tried = 0
        for evens in [(2, 4), (4, 6), (2, 2), (6, 8), (4, 4)]:
            for odds in itertools.combinations_with_replacement((3, 5, 7, 9, 11, 13, 15, 23), 2):
                if can_end(evens, odds):
                    tried += 1
                    self.assertGreaterEqual(top_degree(evens + odds), sum(evens))
                    self.assertTrue(any(all(b + 1 >= 2 * d for d, b in zip(evens, row))
                                        for row in itertools.permutations(odds)))
        self.assertGreater(tried, 20)
        self.same(barring_lots((4, 6), (9, 13)), ((0,), (1,)))

    def test_untrue_statements(self):
        # [10.6]
        self.same(barring_lots((2, 2), (3,)), ((0, 1),))
        self.assertIs(can_end((2, 2), (3, 3)), True)
        self.assertIs(does_end(Tower((2, 2, 3, 3), ({}, {}, {(2, 0, 0, 0): 1}, {(2, 0, 0, 0): 1}))), False)
        for evens, odds in OPEN:
            if len(odds) < 10:
                self.assertIs(can_end(evens, odds + (3,)), True)
        # equally many letters are made by all even letters together
        self.same([can_end((4, 6), (9, 23)), can_end((4, 6), (9, 9))], [True, False])

    def test_errors(self):
        wrong = [None, 3, True, [2], (0,), (42,), (3,), (2, 5), (True,), (2,) * 7, (2, None), ("2",), {}, ((2,),), BALL,
                 (-2,), (HUGE,), (1,)]
        for call, rest in ((barring_lots, ()), (can_end, ()), (degrees_paper, ()), (is_degrees_paper, (None,))):
            for value in wrong:
                self.fails("InvalidLetters", None, call, value, None, *rest)
            for value in [None, 3, True, [3], (1,), (2,), (41,), (40,), (3, 4), (True,), (3,) * 11, (3, None), ("3",), {},
                          BALL, (-3,), (HUGE + 0,), (0,)]:
                self.fails("InvalidLetters", None, call, (2,), value, *rest)
                self.fails("InvalidLetters", None, call, (), value, *rest)


class PapersTest(Case):
    def check_paper(self, evens, odds, paper):
        word, told = paper
        if slow_lots(evens, odds):
            self.assertEqual(word, "lot")
            self.assertIn(told, slow_lots(evens, odds))
            return
        self.assertEqual((word, len(told)), ("tower", len(odds)))
        for odd, step in zip(odds, told):
            for made, number in step.items():
                self.assertIn(made, slow_words(evens, odd + 1))
                self.assertGreaterEqual(sum(made), 2)
                self.assertNotEqual(fraction(number), 0)
        tower = tower_of(evens, odds, told)
        self.assertIs(tower.is_plain, True)
        bound = top_degree(evens + odds)
        for degree in range(bound + 1, bound + 1 + max(evens, default=0)):
            words, made = slow_even_rank(tower, degree)
            self.assertEqual(words, made)

    def test_papers(self):
        # [10.3], [10.5]
        for evens, odds in OPEN + BARRED:
            paper = degrees_paper(evens, odds)
            self.check_paper(evens, odds, paper)
            self.assertIs(is_degrees_paper(evens, odds, paper), True)
            wanted = ("lot", ()) if paper[0] == "tower" else ("tower", ({},) * len(odds))
            self.assertIs(is_degrees_paper(evens, odds, wanted), False)
            if paper[0] == "tower":
                self.assertIs(does_end(tower_of(evens, odds, paper[1])), True)

    def test_many_rows(self):
        tried = {"lot": 0, "tower": 0}
        for evens in [(2,), (2, 4), (4, 6), (2, 2), (2, 4, 6), (2, 2, 4), (4, 4, 6), (6, 2, 10)]:
            for odds in itertools.combinations_with_replacement((3, 5, 7, 9, 11, 15, 19), len(evens)):
                if can_end(evens, odds) and top_degree(evens + odds) + max(evens) > 36:
                    continue
                paper = degrees_paper(evens, odds)
                tried[paper[0]] += 1
                self.assertIs(is_degrees_paper(evens, odds, paper), True)
                self.assertEqual(paper[0], "tower" if can_end(evens, odds) else "lot")
                if paper[0] == "tower":
                    tower = tower_of(evens, odds, paper[1])
                    for even in evens:
                        words, made = slow_even_rank(tower, (top_degree(evens + odds) // even + 1) * even)
                        self.assertEqual(words, made)
        self.assertGreater(min(tried.values()), 60)

    def test_lots_of_others(self):
        for evens, odds in BARRED + OPEN:
            bars = slow_lots(evens, odds)
            for many in range(len(evens) + 2):
                for lot in itertools.product(range(-1, len(evens) + 1), repeat=many) if many < 4 else ():
                    self.assertIs(is_degrees_paper(evens, odds, ("lot", lot)), lot in bars)
        self.assertIs(is_degrees_paper((2, 2), (3,), ("lot", (0, 1))), True)
        for value in [("lot", (1, 0)), ("lot", [0, 1]), ("lot", (False, True)), ("lot", (0, True)), ("lot", (0, 1, 1)), ("lot",),
                      ["lot", (0, 1)], ("lot", (0, 1), None), ("lots", (0, 1)), ((0, 1), "lot"), (0, 1), ("lot", (0, (1,))),
                      ("tower", (0, 1)), ("lot", (0, 1, HUGE)), ("lot", {0: 1}), ("lot", "01"), ("lot", 0), ("lot", None)]:
            self.assertIs(is_degrees_paper((2, 2), (3,), value), False)
        self.assertIs(is_degrees_paper((2,), (), ("lot", (False,))), False)
        self.assertIs(is_degrees_paper((2,), (), ("lot", (0,))), True)

    def test_towers_of_others(self):
        rows = {(0, 4): SIXTY * SIXTY, (6, 0): (-7, HUGE)}
        right = [({(1, 1): 1}, {(6, 0): 1, (0, 4): 1}), ({(1, 1): -HUGE * HUGE}, rows),
                 ({(1, 1): (1, HUGE * HUGE)}, {(6, 0): 1, (3, 2): (5, 2), (0, 4): (-1, 3)}),
                 ({(1, 1): (3, 1)}, {(0, 4): 1, (6, 0): 5})]
        for steps in right:
            self.assertIs(is_degrees_paper((4, 6), (9, 23), ("tower", steps)), True)
        near = [({(1, 1): 1}, {(6, 0): 1}), ({(1, 1): 1}, {(0, 4): 1}), ({(1, 1): 1}, {(3, 2): 1}), ({}, right[0][1]),
                ({(1, 1): 1}, {}), ({(1, 1): 0}, right[0][1]), ({(1, 1): (0, 1)}, right[0][1]), ({(1, 1): True}, right[0][1]),
                ({(1, 1): (2, 2)}, right[0][1]), ({(1, 1): (1, 0)}, right[0][1]), ({(1, 1): (1, -1)}, right[0][1]),
                ({(1, 1): (True, 1)}, right[0][1]), ({(1, 1): None}, right[0][1]), ({(1, 1): "1"}, right[0][1]),
                ({(True, 1): 1}, right[0][1]), ({(1, 1): 1}, {(6, 0): 1, (0, 4): 1, (3, 2): 0}),
                ({(1, 1): 1}, {(6, 0): 1, (0, 4): 1, (1, 3): 1}), ({(1, 1): 1}, {(6, 0): 1, (0, 4): 1, (9, -2): 1}),
                ({(1, 1): 1}, {(6, 0, 0): 1, (0, 4, 0): 1}), ({(1, 1): 1},), ({(1, 1): 1}, right[0][1], {}),
                ({(1, 1): 1}, [((6, 0), 1), ((0, 4), 1)]), [{(1, 1): 1}, right[0][1]], right[0][::-1],
                ({(1, 1): 1}, {(6, 0): 1, (0, 4): 1, None: 1}), ({(1, 1): 1}, {(6, 0): 1, (0, 4): 1, "": 1}),
                ({(1, 1): 1}, None), ({(1, 1): [1, 1]}, right[0][1]), ({"(1, 1)": 1}, right[0][1]),
                ({(1, 1): 1}, {(6, 0): 1, (0, 4): 1, (): 1}), ({(1, 1): 1.0}, right[0][1])]
        for steps in near:
            self.assertIs(is_degrees_paper((4, 6), (9, 23), ("tower", steps)), False)
        for value in [("towers", right[0]), ("tower",), ["tower", right[0]], ("tower", right[0], None), right[0], ("lot", right[0]),
                      ("tower", right[0][0])]:
            self.assertIs(is_degrees_paper((4, 6), (9, 23), value), False)

    def test_told_towers(self):
        self.assertIs(is_degrees_paper((), (3, 5), ("tower", ({}, {}))), True)
        self.assertIs(is_degrees_paper((), (), ("tower", ())), True)
        self.assertIs(is_degrees_paper((), (), ("tower", ({},))), False)
        self.assertIs(is_degrees_paper((), (3,), ("tower", ({(): 1},))), False)
        self.assertIs(is_degrees_paper((), (39,) * 10, ("tower", ({},) * 10)), True)
        self.assertIs(is_degrees_paper((), (39,) * 10, ("tower", ({},) * 9)), False)
        self.assertIs(is_degrees_paper((2,), (3, 5), ("tower", ({}, {(3,): 2}))), True)
        self.assertIs(is_degrees_paper((2,), (3, 5), ("tower", ({(2,): 2}, {}))), True)
        self.assertIs(is_degrees_paper((2,), (3, 5), ("tower", ({}, {}))), False)
        # an exponent below 0
        self.assertIs(is_degrees_paper((2, 2), (3, 3), ("tower", ({(2, 0): 1}, {(0, 2): 1, (3, -1): 1}))), False)
        self.assertIs(is_degrees_paper((2, 4), (3, 7), ("tower", ({(2, 0): 1, (4, -1): 1}, {(0, 2): 1}))), False)
        # a word of the length 1
        self.assertIs(is_degrees_paper((2, 4), (3, 7), ("tower", ({(2, 0): 1}, {(0, 2): 1}))), True)
        self.assertIs(is_degrees_paper((2, 4), (3, 7), ("tower", ({(2, 0): 1, (0, 1): 1}, {(0, 2): 1}))), False)
        # dependent squares, and independent ones that differ by very little
        for a, b, c, d in [(1, 1, 1, 1), (2, 4, 3, 6), (SIXTY, 1, SIXTY * SIXTY, SIXTY)]:
            steps = ({(2, 0): a, (0, 2): b}, {(2, 0): c, (0, 2): d})
            self.assertIs(is_degrees_paper((2, 2), (3, 3), ("tower", steps)), False)
            steps = ({(2, 0): a, (0, 2): b}, {(2, 0): c, (0, 2): (d * HUGE + 1, HUGE)})
            self.assertIs(is_degrees_paper((2, 2), (3, 3), ("tower", steps)), True)
        # numbers that are 0 up to multiples of some prime
        for prime in (2, 3, 2 ** 31 - 1, 2 ** 61 - 1, 10 ** 9 + 7, 998244353):
            steps = ({(2, 0): prime}, {(0, 2): (prime * prime, 5)})
            self.assertIs(is_degrees_paper((2, 2), (3, 3), ("tower", steps)), True)
            steps = ({(2, 0): 1, (0, 2): 1}, {(2, 0): 1, (0, 2): 1 + prime})
            self.assertIs(is_degrees_paper((2, 2), (3, 3), ("tower", steps)), True)

    def test_equal_calls_return_equal_papers(self):
        for evens, odds in OPEN[:12]:
            self.same(degrees_paper(evens, odds), degrees_paper(evens, odds))

    def test_any_value_is_judged(self):
        for evens, odds in [((2,), (3,)), ((2,), ()), ((), ()), ((4, 6), (9, 9))]:
            for value in any_values():
                self.assertIs(is_degrees_paper(evens, odds, value), False)
                for word in ("tower", "lot"):
                    wanted = word == "tower" and evens == () and type(value) is tuple and value == ()
                    wanted = wanted or odds == (9, 9) and word == "lot" and repr(value) == "(1,)"
                    self.assertIs(is_degrees_paper(evens, odds, (word, value)), wanted)
                    self.assertIs(is_degrees_paper(evens, odds, (word, (value,))),
                                  odds == () and evens == (2,) and word == "lot" and type(value) is int and value == 0
                                  or odds == (9, 9) and word == "lot" and type(value) is int and value in (0, 1))

    def test_too_great_degrees(self):
        # N and the greatest even degree together are 80, and above
        for evens, odds, total in [((12, 8), (23, 39), 56), ((2,), (39, 39), 79), ((2,), (3, 39, 39), 82), ((20,), (39, 39), 79),
                                   ((2,), (39, 3, 37), 80), ((4,), (39, 39, 3), 82), ((20,), (39, 3, 37), 80)]:
            self.same(top_degree(evens + odds) + max(evens), total)
            self.assertIs(can_end(evens, odds), True)
            if total > 80:
                self.fails("TooMany", 80, degrees_paper, evens, odds)
                self.fails("TooMany", 80, is_degrees_paper, evens, odds, None)
                self.fails("TooMany", 80, is_degrees_paper, evens, odds, ("lot", (0,)))
            else:
                self.assertIs(is_degrees_paper(evens, odds, degrees_paper(evens, odds)), True)
        # lots are told for all degrees, and towers without even letters
        self.same(degrees_paper((40,), (39,) * 10), ("lot", (0,)))
        self.assertIs(is_degrees_paper((40,), (39,) * 10, ("lot", (0,))), True)
        self.same(degrees_paper((), (39,) * 10), ("tower", ({},) * 10))

    def test_150_even_words_and_more(self):
        # 120, 136 and 153 words at 28, 30 and 32
        for odds, bound in [((9, 9, 9, 3), 27), ((9, 9, 13), 28), ((9, 9, 11, 3), 29), ((11, 11, 11), 30),
                            ((11, 11, 9, 3), 31)]:
            self.same(top_degree((2, 2, 2) + odds), bound)
            self.assertIs(can_end((2, 2, 2), odds), True)
            if bound < 30:
                paper = degrees_paper((2, 2, 2), odds)
                self.assertIs(is_degrees_paper((2, 2, 2), odds, paper), True)
            else:
                self.same(word_count((2, 2, 2), 32), 153)
                self.fails("TooMany", 150, degrees_paper, (2, 2, 2), odds)
                self.fails("TooMany", 150, is_degrees_paper, (2, 2, 2), odds, None)
        # exactly 150 words of the degree 22 in 2, 2, 2 and 6
        found = []
        for odds in itertools.combinations_with_replacement((3, 5, 7, 9, 11), 4):
            bound = top_degree((2, 2, 2, 6) + odds)
            if can_end((2, 2, 2, 6), odds) and bound in (16, 18):
                found.append(bound)
                if bound == 16:
                    self.same(max(word_count((2, 2, 2, 6), degree) for degree in range(17, 23)), 150)
                    self.assertIs(is_degrees_paper((2, 2, 2, 6), odds, degrees_paper((2, 2, 2, 6), odds)), True)
                else:
                    self.fails("TooMany", 150, degrees_paper, (2, 2, 2, 6), odds)
        self.assertTrue(16 in found and 18 in found)
        # a degree between has more than 150 words, the last one has none
        self.same(word_count((4, 4, 4, 4, 6), 31), 0)
        both = ((4,) * 4 + (6,), (7,) * 4 + (11,))
        self.assertIs(can_end(*both), True)
        # 80 comes ahead of 150
        self.fails("TooMany", 80, degrees_paper, (2, 2, 2), (39, 39, 39))
        # for lots no words are counted
        self.same(degrees_paper((2,) * 6, (39,) * 5), ("lot", (0, 1, 2, 3, 4, 5)))
        self.assertIs(is_degrees_paper((2,) * 6, (39,) * 5, ("lot", (0, 1, 2, 3, 4, 5))), True)


if __name__ == "__main__":
    unittest.main()
