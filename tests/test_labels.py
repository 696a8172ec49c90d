import itertools
import unittest

from timegranary.errors import NoLabels, NoSeries, NoWish
from timegranary.labels import Labels, Names, meets

SIGNS = "abcdefghijklmnopqrstuvwxyz0123456789"
TWENTY = "abcdefghij0123456789"
# Nothing of these is a key or a text of labels.
BAD_TEXTS = (
    "", TWENTY + "a", "A", "aB", "Z", "a b", " ", " a", "a ", "a\n", "\n", "\t", "-", "a-b", "a_b", "a=b", "a,b",
    "`", "{", "/", ":", "*", "\u00e4", "\u00b2", "\u0663",
)
NO_TEXTS = (0, 1, -5, True, False, None, [], ["a"], (), ("a",), {}, b"a")


class MadeLabels(unittest.TestCase):
    def test_of_a_dict_a_list_and_a_tuple(self):
        for pairs in ({"b": "x", "a": "y"}, [("b", "x"), ("a", "y")], (("b", "x"), ("a", "y"))):
            self.assertEqual(Labels(pairs).pairs, (("a", "y"), ("b", "x")))

    def test_in_any_order_of_keys(self):
        pairs = [("0", "z"), ("a", "b"), ("aa", "a"), ("b", "9"), ("b0", "0")]
        for order in itertools.permutations(pairs):
            self.assertEqual(Labels(dict(order)).pairs, tuple(pairs))
            self.assertEqual(Labels(list(order)).pairs, tuple(pairs))
            self.assertEqual(Labels(order).pairs, tuple(pairs))

    def test_of_nothing(self):
        for labels in (Labels(), Labels({}), Labels([]), Labels(())):
            self.assertEqual((labels.pairs, len(labels), str(labels), repr(labels)), ((), 0, "-", "Labels({})"))
            self.assertTrue(labels == Labels())

    def test_by_name(self):
        self.assertEqual(Labels(pairs={"a": "b"}).pairs, (("a", "b"),))

    def test_keys_and_texts_of_one_and_of_twenty_signs(self):
        for sign in SIGNS:
            self.assertEqual(Labels({sign: sign}).pairs, ((sign, sign),))
        self.assertEqual(Labels({TWENTY: TWENTY[::-1]}).pairs, ((TWENTY, TWENTY[::-1]),))

    def test_pairs_are_tuples(self):
        pairs = Labels([["a", "b"], ["c", "d"]]).pairs
        self.assertEqual([type(pairs), type(pairs[0]), type(pairs[1])], [tuple, tuple, tuple])

    def test_len_str_and_repr(self):
        labels = Labels({"c": "d", "a": "b"})
        self.assertEqual(len(labels), 2)
        self.assertEqual(str(labels), "a=b,c=d")
        self.assertEqual(repr(labels), "Labels({'a': 'b', 'c': 'd'})")
        self.assertEqual(str(Labels({"a": "b"})), "a=b")

    def test_equal_where_the_pairs_are(self):
        self.assertTrue(Labels({"a": "b", "c": "d"}) == Labels([("c", "d"), ("a", "b")]))
        self.assertFalse(Labels({"a": "b", "c": "d"}) != Labels([("c", "d"), ("a", "b")]))
        for other in ({"a": "c"}, {"b": "b"}, {"a": "b", "c": "d"}, {}):
            self.assertFalse(Labels({"a": "b"}) == Labels(other))
            self.assertTrue(Labels({"a": "b"}) != Labels(other))

    def test_never_equal_to_another_kind(self):
        labels = Labels({"a": "b"})
        for thing in ((("a", "b"),), [("a", "b")], {"a": "b"}, "a=b", 1, True, None, Names(), object()):
            self.assertFalse(labels == thing)
            self.assertFalse(thing == labels)
            self.assertTrue(labels != thing)
        for thing in ((), [], {}, "", "-", 0, False, None):
            self.assertFalse(Labels() == thing)

    def test_what_is_done_later_changes_nothing(self):
        told = {"a": "b"}
        rows = [["a", "b"]]
        of_dict, of_list = Labels(told), Labels(rows)
        told["c"] = "d"
        told["a"] = "x"
        rows[0][1] = "x"
        rows.append(["c", "d"])
        for labels in (of_dict, of_list):
            self.assertEqual((labels.pairs, len(labels), str(labels)), ((("a", "b"),), 1, "a=b"))

    def test_nothing_handed_in_is_changed(self):
        told, rows = {"b": "x", "a": "y"}, [("b", "x"), ("a", "y")]
        Labels(told)
        Labels(rows)
        self.assertEqual(list(told.items()), [("b", "x"), ("a", "y")])
        self.assertEqual(rows, [("b", "x"), ("a", "y")])


class RefusedLabels(unittest.TestCase):
    def refused_at(self, pairs):
        with self.assertRaises(NoLabels) as caught:
            Labels(pairs)
        return caught.exception.at

    def test_bad_keys(self):
        for key in BAD_TEXTS:
            self.assertEqual(self.refused_at({key: "a"}), key)
            self.assertEqual(self.refused_at([(key, "a")]), key)

    def test_bad_texts_and_what_is_no_text(self):
        for text in BAD_TEXTS + NO_TEXTS:
            self.assertIs(self.refused_at({"a": text}), text)
            self.assertIs(self.refused_at((("a", text),)), text)

    def test_one_bad_sign_at_any_place(self):
        for place in range(20):
            text = TWENTY[:place] + "A" + TWENTY[place + 1:]
            self.assertEqual(self.refused_at({text: "a"}), text)
            self.assertEqual(self.refused_at({"a": text}), text)

    def test_the_first_by_rising_keys(self):
        self.assertIsNone(self.refused_at({"c": 5, "b": None, "a": "x"}))
        self.assertEqual(self.refused_at({"c": 5, "d": None, "a": "x"}), 5)
        self.assertEqual(self.refused_at({"b": 5, "A": "x"}), "A")
        self.assertEqual(self.refused_at({"b": 5, "z ": "x"}), 5)
        self.assertEqual(self.refused_at([("z ", "x"), ("b", "x"), ("a", [])]), [])

    def test_the_key_ahead_of_its_text(self):
        self.assertEqual(self.refused_at({"A": 5}), "A")
        self.assertEqual(self.refused_at({"": ""}), "")
        self.assertEqual(self.refused_at({"B": "C", "a": "D"}), "B")

    def test_unlike_kinds_of_texts_beside_good_ones(self):
        self.assertEqual(self.refused_at({"a": "x", "b": 1, "c": None, "d": ("x",)}), 1)

    def test_a_key_twice(self):
        self.assertEqual(self.refused_at([("b", "x"), ("a", "x"), ("b", "y")]), "b")
        self.assertEqual(self.refused_at([("a", "x"), ("a", "x")]), "a")

    def test_nothing_handed_in_is_changed(self):
        told = {"b": "x", "a": 5}
        self.refused_at(told)
        self.assertEqual(list(told.items()), [("b", "x"), ("a", 5)])


class Wishes(unittest.TestCase):
    LABELS = Labels({"host": "web1", "zone": "north"})

    def told(self, *wishes):
        told = meets(self.LABELS, list(wishes))
        self.assertIs(type(told), bool)
        return told

    def test_is(self):
        self.assertTrue(self.told(("is", "host", "web1")))
        self.assertFalse(self.told(("is", "host", "web")))
        self.assertFalse(self.told(("is", "host", "web11")))
        self.assertFalse(self.told(("is", "rack", "web1")))

    def test_isnt(self):
        self.assertFalse(self.told(("isnt", "host", "web1")))
        self.assertTrue(self.told(("isnt", "host", "web")))
        self.assertTrue(self.told(("isnt", "rack", "web1")))

    def test_oneof(self):
        self.assertTrue(self.told(("oneof", "host", ("web0", "web1"))))
        self.assertTrue(self.told(("oneof", "host", ("web1",))))
        self.assertTrue(self.told(("oneof", "host", ("web1", "web1"))))
        self.assertFalse(self.told(("oneof", "host", ("web0", "web2", "web"))))
        self.assertFalse(self.told(("oneof", "rack", ("web0", "web1"))))

    def test_oneof_no_text(self):
        self.assertFalse(self.told(("oneof", "host", ())))
        self.assertFalse(self.told(("oneof", "rack", ())))

    def test_begins(self):
        for text in ("w", "we", "web", "web1"):
            self.assertTrue(self.told(("begins", "host", text)))
        for text in ("e", "eb1", "web12", "wen"):
            self.assertFalse(self.told(("begins", "host", text)))
        self.assertFalse(self.told(("begins", "rack", "w")))

    def test_begins_with_the_text_of_no_sign(self):
        self.assertTrue(self.told(("begins", "host", "")))
        self.assertFalse(self.told(("begins", "rack", "")))

    def test_has_and_lacks(self):
        self.assertTrue(self.told(("has", "host")))
        self.assertFalse(self.told(("has", "rack")))
        self.assertFalse(self.told(("lacks", "host")))
        self.assertTrue(self.told(("lacks", "rack")))

    def test_no_wishes(self):
        self.assertTrue(self.told())
        self.assertIs(meets(Labels(), []), True)

    def test_all_of_several(self):
        met_ones = (("has", "host"), ("isnt", "rack", "a"), ("begins", "zone", "nor"))
        self.assertTrue(self.told(*met_ones))
        for place in range(4):
            self.assertFalse(self.told(*met_ones[:place], ("lacks", "zone"), *met_ones[place:]))

    def test_labels_of_nothing(self):
        for wish, told in (
            (("is", "a", "b"), False), (("isnt", "a", "b"), True), (("oneof", "a", ("b",)), False),
            (("begins", "a", ""), False), (("has", "a"), False), (("lacks", "a"), True),
        ):
            self.assertIs(meets(Labels(), [wish]), told)

    def test_keys_and_texts_of_twenty_signs(self):
        labels = Labels({TWENTY: TWENTY})
        for wish in (("is", TWENTY, TWENTY), ("oneof", TWENTY, (TWENTY,)), ("begins", TWENTY, TWENTY), ("has", TWENTY)):
            self.assertIs(meets(labels, [wish]), True)

    def test_by_names_asked_again_and_nothing_changed(self):
        wishes = [("is", "host", "web1"), ("oneof", "zone", ("north",))]
        self.assertIs(meets(wishes=wishes, labels=self.LABELS), True)
        self.assertIs(meets(self.LABELS, wishes), True)
        self.assertEqual(wishes, [("is", "host", "web1"), ("oneof", "zone", ("north",))])
        self.assertEqual(self.LABELS.pairs, (("host", "web1"), ("zone", "north")))


NO_WISHES = [
    ("was", "a", "b"), ("Is", "a", "b"), ("", "a", "b"), ("is ", "a", "b"), (None, "a", "b"), (1, "a", "b"),
    (["is"], "a", "b"), (("is",), "a", "b"), ("had", "a"), ("HAS", "a"), (None, "a"),
    ("is", "a"), ("isnt", "a"), ("oneof", "a"), ("begins", "a"), ("has", "a", "b"), ("lacks", "a", "b"),
    ("has", "a", ()), ("is", "a", "b", "c"), ("oneof", "a", "b", "c"), ("oneof", "a", ("b",), ("c",)),
    ("begins", "a", "b", ""), ("has",), ("lacks",), ("is",), (),
    ("oneof", "a", ["b"]), ("oneof", "a", []), ("oneof", "a", "b"), ("oneof", "a", ""), ("oneof", "a", None),
    ("oneof", "a", {"b": "c"}), ("oneof", "a", 5), ("oneof", "a", ("b", ("c",))),
    None, 0, True, "is", "has", "", [], ["has", "a"], ["is", "a", "b"], {}, {"has": "a"}, Labels({"a": "b"}),
]
for bad in BAD_TEXTS + NO_TEXTS:
    NO_WISHES += [
        ("is", bad, "b"), ("isnt", bad, "b"), ("oneof", bad, ("b",)), ("oneof", bad, ()), ("begins", bad, "b"),
        ("begins", bad, ""), ("has", bad), ("lacks", bad),
        ("is", "a", bad), ("isnt", "a", bad), ("oneof", "a", (bad,)), ("oneof", "a", ("b", bad)),
        ("oneof", "a", (bad, "b")),
    ]
    if bad != "":
        NO_WISHES.append(("begins", "a", bad))


class RefusedWishes(unittest.TestCase):
    def refused_at(self, asked, *things):
        with self.assertRaises(NoWish) as caught:
            asked(*things)
        self.assertIs(type(caught.exception.at), int)
        return caught.exception.at

    def test_each_that_is_none(self):
        names = Names()
        names.add(Labels({"a": "b"}))
        for thing in NO_WISHES:
            with self.subTest(repr(thing)):
                self.assertEqual(self.refused_at(meets, Labels({"a": "b"}), [thing]), 0)
                self.assertEqual(self.refused_at(meets, Labels(), [thing]), 0)
                self.assertEqual(self.refused_at(names.found, [thing]), 0)

    def test_the_place_of_the_first(self):
        good = ("has", "a")
        for ahead in range(4):
            wishes = [good] * ahead + [("has", ""), good, ("no", "a")]
            self.assertEqual(self.refused_at(meets, Labels({"a": "b"}), wishes), ahead)
            self.assertEqual(self.refused_at(Names().found, wishes), ahead)

    def test_also_behind_a_wish_that_isnt_met(self):
        self.assertEqual(self.refused_at(meets, Labels(), [("has", "a"), ("has", "a"), ("has", "A")]), 2)

    def test_nothing_handed_in_is_changed(self):
        wishes = [("has", "a"), ["has", "a"]]
        self.refused_at(meets, Labels(), wishes)
        self.assertEqual(wishes, [("has", "a"), ["has", "a"]])


class NamesByPlaces(unittest.TestCase):
    ROWS = (
        {"host": "web1", "zone": "north"}, {}, {"zone": "south"}, {"host": "web2"},
        {"host": "db", "zone": "north", "disk": "9"},
    )

    def setUp(self):
        self.names = Names()
        self.places = [self.names.add(Labels(row)) for row in self.ROWS]

    def check_whole(self, names=None):
        names = self.names if names is None else names
        self.assertEqual([names.labels_at(place) for place in range(5)], [Labels(row) for row in self.ROWS])
        self.assertEqual(names.found([]), [0, 1, 2, 3, 4])
        self.assertEqual(names.key_list(), ["disk", "host", "zone"])
        self.assertEqual(names.texts_of("host"), ["db", "web1", "web2"])
        with self.assertRaises(NoSeries):
            names.labels_at(5)

    def test_add_tells_the_next_place(self):
        self.assertEqual(self.places, [0, 1, 2, 3, 4])
        self.assertEqual(self.names.add(Labels({"z": "z"})), 5)
        self.assertEqual(self.names.add(labels=Labels({"z": "y"})), 6)

    def test_add_of_such_as_are_there(self):
        for place, row in list(enumerate(self.ROWS))[::-1]:
            self.assertEqual(self.names.add(Labels(list(row.items())[::-1])), place)
        self.check_whole()

    def test_labels_at(self):
        for place, row in enumerate(self.ROWS):
            self.assertIs(type(self.names.labels_at(place)), Labels)
            self.assertEqual(self.names.labels_at(place), Labels(row))
        self.assertEqual(self.names.labels_at(place=2), Labels({"zone": "south"}))

    def test_labels_at_no_place(self):
        for names, places in ((self.names, (5, 6, -1, -5, -6, 10 ** 15 - 1, 1 - 10 ** 15)), (Names(), (0, 1, -1))):
            for place in places:
                with self.assertRaises(NoSeries) as caught:
                    names.labels_at(place)
                self.assertEqual(caught.exception.at, place)
        self.check_whole()

    def test_found(self):
        for wishes, places in (
            ([], [0, 1, 2, 3, 4]), ([("has", "host")], [0, 3, 4]), ([("lacks", "host")], [1, 2]),
            ([("is", "zone", "north")], [0, 4]), ([("isnt", "zone", "north")], [1, 2, 3]),
            ([("oneof", "host", ("web2", "db"))], [3, 4]), ([("oneof", "host", ())], []),
            ([("begins", "host", "web")], [0, 3]), ([("begins", "zone", "")], [0, 2, 4]),
            ([("begins", "host", "web"), ("has", "zone")], [0]), ([("has", "host"), ("lacks", "host")], []),
        ):
            self.assertEqual(self.names.found(wishes), places, wishes)
            self.assertEqual(self.names.found(wishes=wishes), places, wishes)

    def test_found_refused_changes_nothing(self):
        for names in (self.names, Names()):
            with self.assertRaises(NoWish) as caught:
                names.found([("has", "host"), "host"])
            self.assertEqual(caught.exception.at, 1)
        self.check_whole()

    def test_key_list_and_texts_of(self):
        self.assertEqual(self.names.key_list(), ["disk", "host", "zone"])
        self.assertEqual(self.names.texts_of("zone"), ["north", "south"])
        self.assertEqual(self.names.texts_of(key="disk"), ["9"])
        self.assertEqual(self.names.texts_of("rack"), [])
        self.assertEqual(self.names.texts_of("north"), [])

    def test_of_nothing(self):
        names = Names()
        self.assertEqual((names.found([]), names.key_list(), names.texts_of("a")), ([], [], []))
        self.assertEqual(names.add(Labels()), 0)
        self.assertEqual((names.found([]), names.key_list(), names.texts_of("a")), ([0], [], []))

    def test_rising_by_signs_not_by_numbers(self):
        names = Names()
        for text in ("9", "10", "b", "a", "aa"):
            names.add(Labels({text: text, "k": text}))
        self.assertEqual(names.key_list(), ["10", "9", "a", "aa", "b", "k"])
        self.assertEqual(names.texts_of("k"), ["10", "9", "a", "aa", "b"])

    def test_two_share_nothing(self):
        other = Names()
        self.assertEqual((other.found([]), other.key_list(), other.texts_of("host")), ([], [], []))
        self.assertEqual(other.add(Labels({"x": "y"})), 0)
        self.check_whole()
        self.assertEqual(self.names.add(Labels({"q": "r"})), 5)
        self.assertEqual((other.found([]), other.key_list()), ([0], ["x"]))

    def test_told_lists_that_are_changed_change_nothing(self):
        for told in (self.names.found([]), self.names.key_list(), self.names.texts_of("host")):
            self.assertIs(type(told), list)
            told.reverse()
            told.append("other")
        self.check_whole()

    def test_a_list_of_wishes_changed_later(self):
        wishes = [("has", "host")]
        told = self.names.found(wishes)
        wishes.append(("lacks", "host"))
        self.assertEqual((told, self.names.found([("has", "host")])), ([0, 3, 4], [0, 3, 4]))

    def test_never_equal_to_another_kind(self):
        for thing in ([], (), {}, None, 0, "", Labels(), object()):
            self.assertFalse(Names() == thing)
            self.assertFalse(thing == Names())

    def test_forty_series(self):
        names = Names()
        rows = [Labels({"host": f"h{place}"}) for place in range(40)]
        self.assertEqual([names.add(row) for row in rows + rows], list(range(40)) * 2)
        self.assertEqual(names.found([("begins", "host", "h3")]), [3] + list(range(30, 40)))


if __name__ == "__main__":
    unittest.main()
