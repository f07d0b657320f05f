"""The examples of the document, each compared with what the document prints below it."""

import ast
import doctest
import os
import re
import unittest

from stepletters import errors
from stepletters.algebras import algebras, least, loops
from stepletters.base import ratios, tables
from stepletters.built import built
from stepletters.classes import classes, rings, triples, weights
from stepletters.desk import desk
from stepletters.plain import degrees, ends, grades
from stepletters.text import strings
from stepletters.towers import brackets, lengths, maps, towers
from stepletters.words import sums, words
from support import KEPT, Case

HERE = os.path.dirname(os.path.abspath(__file__))
DOCUMENT = os.path.join(HERE, "..", "..", "shared", "DOC.md")
STAGES = {1: (ratios, tables), 2: (words,), 3: (sums,), 4: (sums, towers), 5: (classes,), 6: (rings,), 7: (weights,),
          8: (ends,), 9: (grades,), 10: (degrees,), 11: (sums, towers, lengths), 12: (brackets,), 13: (algebras,),
          14: (towers, algebras, least), 15: (loops,), 16: (maps,), 17: (sums, towers, triples), 18: (built,),
          19: (towers, desk), 20: (sums, towers, algebras, strings)}
ERRORS = (errors.StepError, errors.InvalidNumber, errors.UnknownName, errors.TooMany, errors.Refused, errors.NothingToUndo)


def told(stage):
    """The pairs (code, what is printed below it or None) of a stage."""
    with open(os.path.join(HERE, "examples", f"stage{stage}.txt"), encoding="utf-8") as file:
        lines = file.read().splitlines()
    pairs = []
    for line in lines:
        if line.startswith(">>> "):
            pairs.append([line[4:], None])
        else:
            pairs[-1][1] = line
    return pairs


def names_of(stage):
    """The public names of the modules of a stage."""
    found = {}
    for module in STAGES[stage]:
        for name, value in vars(module).items():
            if not name.startswith("_") and getattr(value, "__module__", module.__name__) == module.__name__:
                found[name] = value
    return found


def outcome(code, names):
    """What the document would print below some code."""
    if isinstance(ast.parse(code).body[0], ast.Expr):
        try:
            return repr(eval(code, names))
        except ERRORS as error:
            name = type(error).__name__
            return f"raises {name}({getattr(error, KEPT[name])!r})" if name in KEPT else f"raises {name}"
    exec(code, names)
    return None


class ExamplesTest(Case):
    def check_stage(self, stage):
        names = names_of(stage)
        pairs = told(stage)
        self.assertGreater(len(pairs), 4)
        for code, wanted in pairs:
            with self.subTest(code=code):
                self.assertEqual(outcome(code, names), wanted)

    def test_ratios_and_tables(self):
        self.check_stage(1)

    def test_words(self):
        self.check_stage(2)

    def test_sums(self):
        self.check_stage(3)

    def test_towers(self):
        self.check_stage(4)

    def test_classes(self):
        self.check_stage(5)

    def test_rings(self):
        self.check_stage(6)

    def test_weights(self):
        self.check_stage(7)

    def test_ends(self):
        self.check_stage(8)

    def test_grades(self):
        self.check_stage(9)

    def test_degrees(self):
        self.check_stage(10)

    def test_lengths(self):
        self.check_stage(11)

    def test_brackets(self):
        self.check_stage(12)

    def test_algebras(self):
        self.check_stage(13)

    def test_least_towers(self):
        self.check_stage(14)

    def test_loops(self):
        self.check_stage(15)

    def test_maps(self):
        self.check_stage(16)

    def test_triples(self):
        self.check_stage(17)

    def test_desk(self):
        self.check_stage(19)

    def test_texts(self):
        self.check_stage(20)

    def test_built_towers(self):
        self.check_stage(18)

    def test_what_the_readme_shows(self):
        with open(os.path.join(HERE, "..", "README.md"), encoding="utf-8") as file:
            text = file.read().replace("```", "")
        examples, names = doctest.DocTestParser().get_examples(text), {}
        self.assertGreater(len(examples), 30)
        for example in examples:
            found = outcome(example.source, names)
            self.assertEqual("" if found is None else found + "\n", example.want)

    @unittest.skipUnless(os.path.exists(DOCUMENT), "the document is not here")
    def test_the_examples_are_those_of_the_document(self):
        with open(DOCUMENT, encoding="utf-8") as file:
            parts = re.split(r"(?m)^## ", file.read())
        for stage in STAGES:
            part = next(part for part in parts if part.startswith(f"Stage {stage}:"))
            blocks = re.findall(r"```\n(.*?)```", part, re.DOTALL)
            with open(os.path.join(HERE, "examples", f"stage{stage}.txt"), encoding="utf-8") as file:
                self.assertEqual(file.read(), "".join(blocks))


if __name__ == "__main__":
    unittest.main()
