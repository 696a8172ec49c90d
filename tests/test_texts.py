"""[35] to [38]: texts of labels, wishes, deeds, asks and folds, there and back."""

import random
import unittest

from timegranary.errors import NoText
from timegranary.folds import WHATS, Fold, fold_of
from timegranary.labels import Labels
from timegranary.texts import (
    ask_text, deed_text, fold_text, read_ask, read_deed, read_labels, read_wishes, wishes_text,
)

FORTY = "9" * 40
FORTY_ONE = "1" + "0" * 40


class Reading(unittest.TestCase):
    def refused(self, reader, *texts):
        for text in texts:
            with self.assertRaises(NoText, msg=repr(text)) as caught:
                reader(text)
            self.assertEqual(caught.exception.at, text)


class LabelTexts(Reading):
    def test_there_and_back(self):
        for pairs, text in (
            ({}, "-"), ({"a": "b"}, "a=b"), ({"b": "2", "a": "1"}, "a=1,b=2"), ({"z" * 20: "9" * 20}, "z" * 20 + "=" + "9" * 20),
            ({"0": "x", "a": "y", "a0": "z"}, "0=x,a=y,a0=z"),
        ):
            self.assertEqual(str(Labels(pairs)), text)
            told = read_labels(text)
            self.assertIsInstance(told, Labels)
            self.assertEqual(told, Labels(pairs))

    def test_none(self):
        self.refused(
            read_labels, "", " ", "b=2,a=1", "a=1,a=1", "a=1,a=2", "a=1,", ",a=1", "a=1,,b=2", "a", "a=", "=1", "=", "a==1",
            "a=1 ", " a=1", "a=1, b=2", "a=1 ,b=2", "A=1", "a=A", "a=1\n", "\n", "a=\t", "a=1;b=2", "a:1", "--", "-,a=1", "a=-",
            "a" * 21 + "=1", "a=" + "b" * 21, "a=b=c", "a=1,-", "*",
        )


WISHES = (
    (("is", "a", "b"), "a=b"), (("isnt", "a", "b"), "a!=b"), (("oneof", "a", ("b", "c1")), "a=(b|c1)"),
    (("oneof", "a", ("b",)), "a=(b)"), (("oneof", "a", ()), "a=()"), (("oneof", "a", ("b", "b")), "a=(b|b)"),
    (("begins", "a", "b"), "a^b"), (("begins", "a", ""), "a^"), (("has", "a"), "a"), (("lacks", "a"), "!a"),
)


class WishTexts(Reading):
    def test_there_and_back(self):
        for wish, text in WISHES:
            self.assertEqual(wishes_text([wish]), text)
            self.assertEqual(read_wishes(text), [wish])
        self.assertEqual(wishes_text([]), "*")
        self.assertEqual(read_wishes("*"), [])
        wishes = [wish for wish, text in WISHES]
        text = " ".join([text for wish, text in WISHES])
        self.assertEqual(wishes_text(wishes), text)
        self.assertEqual(read_wishes(text), wishes)

    def test_told_lists_are_new_ones(self):
        read_wishes("a b").clear()
        read_wishes("*").append(1)
        self.assertEqual(read_wishes("a b"), [("has", "a"), ("has", "b")])
        self.assertEqual(read_wishes("*"), [])

    def test_none(self):
        self.refused(
            read_wishes, "", " ", "**", "* a", "a *", "a  b", " a", "a ", "a\n", "\ta", "A", "a=", "=a", "a!=", "!=b", "!", "!!a",
            "!a=b", "a!b", "a=!b", "a=b=c", "a==b", "a=(", "a=)", "a=(b", "a=b)", "a=(b|)", "a=(|b)", "a=(|)", "a=(b||c)",
            "a=((b))", "a=(b)c", "a=()b", "a=( b)", "a=(b, c)", "a=(B)", "a!=()", "a^(b)", "^b", "^", "a^b^c", "a^B", "a^  b",
            "a" * 21, "a=" + "b" * 21, "a^" + "b" * 21, "a=(" + "b" * 21 + ")", "a,b", "a=b,c=d", "a|b", "(a)", "-", "a=-", "!*",
        )


A = Labels({"a": "1"})
DEEDS = (
    (("put", A, 0, 5), "put a=1 0 5"), (("put", Labels(), -3, -70), "put - -3 -70"),
    (("put", A, int(FORTY), -int(FORTY)), f"put a=1 {FORTY} -{FORTY}"),
    (("all", []), "all 0"), (("all", [(A, 0, 5)]), "all 1 a=1 0 5"),
    (("all", [(A, 0, 5), (Labels(), -1, 0), (A, 0, 6)]), "all 3 a=1 0 5 - -1 0 a=1 0 6"),
    (("strike", [], 0, 60), "strike 0..60 *"), (("strike", [("has", "a"), ("lacks", "b")], -60, -5), "strike -60..-5 a !b"),
    (("strike", [("oneof", "a", ("x", "y"))], 60, 0), "strike 60..0 a=(x|y)"),
    (("expire", 99), "expire 99"), (("expire", -1), "expire -1"), (("forget", 0), "forget 0"), (("forget", -7), "forget -7"),
    (("flush",), "flush"),
)


class DeedTexts(Reading):
    def test_there_and_back(self):
        for deed, text in DEEDS:
            self.assertEqual(deed_text(deed), text)
            self.assertEqual(read_deed(text), deed)

    def test_kinds(self):
        word, rows = read_deed("all 1 a=1 0 5")
        self.assertIsInstance(rows, list)
        self.assertIsInstance(rows[0], tuple)
        self.assertIsInstance(rows[0][0], Labels)
        self.assertIsInstance(read_deed("strike 0..1 *")[1], list)
        rows.clear()
        self.assertEqual(len(read_deed("all 1 a=1 0 5")[1]), 1)

    def test_what_is_handed_in_is_not_changed(self):
        rows = [(A, 0, 5)]
        deed_text(("all", rows))
        self.assertEqual(rows, [(A, 0, 5)])

    def test_none(self):
        self.refused(
            read_deed, "", " ", "put", "put ", "put a=1 0", "put a=1 0 5 6", "put a=1 0 5 ", " put a=1 0 5", "put  a=1 0 5",
            "put a=1  0 5", "put a=1 0  5", "put a=1 0 5\n", "put a=1\t0 5", "put a=1 00 5", "put a=1 0 05", "put a=1 -0 5",
            "put a=1 0 -0", "put a=1 +0 5", "put a=1 0 5.0", "put a=1 0 1/2", "put b=1,a=1 0 5", "put a 0 5", "put A=1 0 5",
            "put * 0 5", "Put a=1 0 5", "put a=1 0 " + FORTY_ONE, "put a=1 -" + FORTY_ONE + " 0", "put a=1 0 --5", "put a=1 0 -",
            "all", "all ", "all 1", "all 0 ", "all 1 a=1 0", "all 1 a=1 0 5 ", "all 2 a=1 0 5", "all 0 a=1 0 5", "all 01 a=1 0 5",
            "all -1", "all -0", "all a=1 0 5", "all 1  a=1 0 5", "all 1 a=1 0 5 a=1 0 5", "all 1 a=1 0 05", "all " + FORTY_ONE,
            "strike", "strike 0..60", "strike 0..60 ", "strike 0..60  *", "strike 0..60 * ", "strike 0..60 a  b", "strike 0.60 *",
            "strike 0...60 *", "strike 0 ..60 *", "strike 0.. *", "strike ..60 *", "strike .. *", "strike 00..60 *",
            "strike 0..-0 *", "strike * 0..60", "strike 0..60..90 *", "strike 0..60 a=", "strike 0-60 *",
            "expire", "expire ", "expire 1 2", "expire 01", "expire -0", "expire *", "expire 1 ", "expire " + FORTY_ONE,
            "forget", "forget x", "forget 1.", "forget -00", "flush ", " flush", "flush 1", "Flush", "flushed", "at 1 flush",
            "found *", "mark", "put_all 0", "strike 0..60 *\n",
        )


FOLD = ("fold", "sum", [])
ASKS = (
    (FOLD, "fold(sum, *)"), (("fold", "count", [("has", "a"), ("oneof", "b", ("x", "y"))]), "fold(count, a b=(x|y))"),
    (("fold", "held", [("oneof", "b", ())]), "fold(held, b=())"),
    (("by", "sum", (), FOLD), "by(sum, -, fold(sum, *))"), (("by", "mean", ("b", "a"), FOLD), "by(mean, b+a, fold(sum, *))"),
    (("each", "plus", FOLD, (3, 1)), "each(plus, fold(sum, *), 3)"),
    (("each", "minus", FOLD, (-1, 2)), "each(minus, fold(sum, *), -1/2)"),
    (("each", "times", FOLD, (0, 1)), "each(times, fold(sum, *), 0)"),
    (("both", "over", FOLD, ("top", 1, FOLD)), "both(over, fold(sum, *), top(1, fold(sum, *)))"),
    (("fill", "last", FOLD), "fill(last, fold(sum, *))"), (("fill", "straight", FOLD), "fill(straight, fold(sum, *))"),
    (("above", FOLD, (5, 3)), "above(fold(sum, *), 5/3)"), (("top", 12, FOLD), "top(12, fold(sum, *))"),
    (("shift", -2, FOLD), "shift(-2, fold(sum, *))"), (("shift", 0, FOLD), "shift(0, fold(sum, *))"),
    (("above", FOLD, (int(FORTY), int(FORTY) - 1)), f"above(fold(sum, *), {FORTY}/{int(FORTY) - 1})"),
)


class AskTexts(Reading):
    def test_there_and_back(self):
        for ask, text in ASKS:
            self.assertEqual(ask_text(ask), text)
            self.assertEqual(read_ask(text), ask)
        for what in WHATS:
            self.assertEqual(read_ask(f"fold({what}, *)"), ("fold", what, []))
        for what in ("count", "sum", "least", "greatest", "mean"):
            self.assertEqual(read_ask(f"by({what}, a, fold(sum, *))"), ("by", what, ("a",), FOLD))
        for word in ("plus", "minus", "times", "over"):
            self.assertEqual(read_ask(f"both({word}, fold(sum, *), fold(sum, *))"), ("both", word, FOLD, FOLD))

    def test_lists_are_new_ones(self):
        read_ask("fold(sum, a)")[2].clear()
        self.assertEqual(read_ask("fold(sum, a)"), ("fold", "sum", [("has", "a")]))

    def test_drawn_asks_there_and_back(self):
        chance = random.Random(8)
        for turn in range(200):
            ask = chance.choice(ASKS)[0]
            for level in range(chance.randint(0, 8)):
                ask = chance.choice([
                    ("by", "least", ("a", "z9"), ask), ("each", "plus", ask, (-7, 3)), ("both", "minus", ask, ASKS[1][0]),
                    ("both", "plus", ASKS[2][0], ask), ("fill", "last", ask), ("above", ask, (1, 1)), ("top", 3, ask),
                    ("shift", 4, ask),
                ])
            self.assertEqual(read_ask(ask_text(ask)), ask)

    def test_none(self):
        self.refused(
            read_ask, "", " ", "fold", "fold()", "fold(sum)", "fold(sum,*)", "fold(sum,  *)", "fold(sum , *)", "fold( sum, *)",
            "fold(sum, * )", "fold(sum, *) ", " fold(sum, *)", "fold (sum, *)", "fold(sum, *", "fold(sum, *))", "fold(sum, *)(",
            "(fold(sum, *))", "fold((sum, *)", "fold(sum, *), ", "fold(sum, *, *)", "fold(total, *)", "fold(Sum, *)",
            "Fold(sum, *)", "fold(sum, )", "fold(sum, a, b)", "fold(sum, a=(x|y)", "fold(sum, a=x|y))", "fold(sum, a=(x)))",
            "fold[sum, *]", "fold(sum, *)\n", "fold(sum,\t*)", "fold(sum, a  b)", "fold(*, sum)",
            "by(sum, , fold(sum, *))", "by(sum, a+, fold(sum, *))", "by(sum, a+a, fold(sum, *))", "by(sum, A, fold(sum, *))",
            "by(sum, a,b, fold(sum, *))", "by(sum, a b, fold(sum, *))", "by(first, a, fold(sum, *))", "by(sum, a+-, fold(sum, *))",
            "by(sum, fold(sum, *))", "by(sum, *, fold(sum, *))", "by(sum, --, fold(sum, *))", "by(sum, " + "a" * 21 + ", fold(sum, *))",
            "each(plus, fold(sum, *), 2/4)", "each(plus, fold(sum, *), 3/1)", "each(plus, fold(sum, *), 0/1)",
            "each(plus, fold(sum, *), 1/0)", "each(plus, fold(sum, *), 1/-2)", "each(plus, fold(sum, *), -0)",
            "each(plus, fold(sum, *), 01)", "each(plus, fold(sum, *), 1/02)", "each(plus, fold(sum, *), /2)",
            "each(plus, fold(sum, *), 1/)", "each(plus, fold(sum, *), 1/2/3)", "each(plus, fold(sum, *), 1.5)",
            "each(plus, fold(sum, *), -0/2)", "each(plus, fold(sum, *), (1, 2))", "each(over, fold(sum, *), 1)",
            "each(plus, 1, fold(sum, *))", "each(plus, fold(sum, *))", "each(plus, fold(sum, *), " + FORTY_ONE + ")",
            "each(plus, fold(sum, *), 1/" + FORTY_ONE + ")",
            "both(plus, fold(sum, *))", "both(mean, fold(sum, *), fold(sum, *))", "both(plus, fold(sum, *), fold(total, *))",
            "both(plus, fold(sum, *),fold(sum, *))", "both(plus, fold(sum, *), 1)",
            "fill(first, fold(sum, *))", "fill(fold(sum, *), last)", "fill(last, 1)", "fill(last, )", "fill(last)",
            "above(1, fold(sum, *))", "above(fold(sum, *), 2/2)", "above(fold(sum, *))",
            "top(0, fold(sum, *))", "top(-1, fold(sum, *))", "top(1/2, fold(sum, *))", "top(01, fold(sum, *))",
            "top(fold(sum, *), 1)", "shift(-0, fold(sum, *))", "shift(1/2, fold(sum, *))", "shift(+1, fold(sum, *))",
            "shift(" + FORTY_ONE + ", fold(sum, *))", "top(1, (fold(sum, *)))", "sum(fold(sum, *))", "*", "-",
        )

    def test_200_brackets_open_at_once_and_201(self):
        def nested(many, inner):
            return "fill(last, " * many + inner + ")" * many

        text = nested(199, "fold(sum, *)")
        ask = read_ask(text)
        self.assertEqual(ask_text(ask), text)
        self.refused(read_ask, nested(200, "fold(sum, *)"))
        text = nested(198, "fold(sum, a=(x|y))")
        self.assertEqual(ask_text(read_ask(text)), text)
        self.refused(read_ask, nested(199, "fold(sum, a=(x|y))"), "(" * 100000, "fold(" * 2000, nested(3000, "fold(sum, *)"))
        # Brackets that are closed again don't count.
        wide = "both(plus, fold(sum, *), " * 150 + "fold(sum, *)" + ")" * 150
        self.assertEqual(ask_text(read_ask(wide)), wide)
        self.refused(
            read_ask, "both(plus, fold(sum, *), " + nested(199, "fold(sum, *)") + ")",
            "both(plus, both(plus, fold(sum, *), fold(sum, *)), " + nested(199, "fold(sum, *)") + ")",
        )
        deepest = "both(plus, both(plus, fold(sum, *), fold(sum, *)), " + nested(198, "fold(sum, *)") + ")"
        self.assertEqual(ask_text(read_ask(deepest)), deepest)


class FoldTexts(unittest.TestCase):
    def test_with_and_without_none(self):
        self.assertEqual(fold_text(Fold()), "0 0 0 - - - - 0 0")
        self.assertEqual(fold_text(fold_of([(0, 2), (4, 3)])), "2 5 13 2 3 0:2 4:3 1 8")
        self.assertEqual(fold_text(fold_of([(-4, -3)])), "1 -3 9 -3 -3 -4:-3 -4:-3 0 0")
        self.assertEqual(fold_text(Fold(count=2, total=5, squares=13, least=2, greatest=3)), "2 5 13 2 3 - - 0 0")


if __name__ == "__main__":
    unittest.main()
