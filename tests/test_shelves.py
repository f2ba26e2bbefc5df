import unittest

from lettercell.errors import BadWord, NoSuch
from lettercell.rows import Shelves

TWO = [("posts", 3, "table"), ("a1", 2, "stream")]
SIX = [("a", 1, "table"), ("b", 9, "stream"), ("c", 2, "table"), ("d", 1, "stream"), ("e", 4, "stream"),
       ("twelvesigns0", 9, "table")]
SIX_ROWS = {"a": [0], "b": list(range(1, 10)), "c": [10, 11], "d": [12], "e": [13, 14, 15, 16],
            "twelvesigns0": list(range(17, 26))}


class Agreeing:
    """A thing that says of itself that it is like any other."""

    __hash__ = None

    def __eq__(self, other):
        return True


class TestTold(unittest.TestCase):
    def test_shelves_from_one_to_six(self):
        for many in range(1, 7):
            shelves = Shelves(SIX[:many])
            self.assertEqual(shelves.told(), SIX[:many])
            self.assertEqual(shelves.many_rows(), sum(shelf[1] for shelf in SIX[:many]))

    def test_each_number_of_rows(self):
        for many in range(1, 10):
            shelves = Shelves([("a", many, "table"), ("b", 10 - many, "stream")])
            self.assertEqual(shelves.many_rows(), 10)
            self.assertEqual(shelves.rows_of("a"), list(range(many)))
            self.assertEqual(shelves.rows_of("b"), list(range(many, 10)))

    def test_rows_are_numbered_through(self):
        shelves = Shelves(SIX)
        for name, rows in SIX_ROWS.items():
            self.assertEqual(shelves.rows_of(name), rows)

    def test_shelf_and_kind_of_each_row(self):
        shelves = Shelves(SIX)
        for name, many, kind in SIX:
            for row in SIX_ROWS[name]:
                self.assertEqual(shelves.shelf_at(row), name)
                self.assertEqual(shelves.kind_at(row), kind)

    def test_row_for_a_key(self):
        # The spreads: a 134, ab 5075, abc 56312, the blank 69, ~ 163, 0 85.
        keys = ["a", "ab", "abc", " ", "~", "0"]
        shelves = Shelves(TWO)
        self.assertEqual([shelves.row_for("posts", key) for key in keys], [2, 2, 2, 0, 1, 1])
        self.assertEqual([shelves.row_for("a1", key) for key in keys], [3, 4, 3, 4, 4, 4])
        shelves = Shelves(SIX)
        self.assertEqual([shelves.row_for("a", key) for key in keys], [0, 0, 0, 0, 0, 0])
        self.assertEqual([shelves.row_for("b", key) for key in keys], [9, 9, 9, 7, 2, 5])
        self.assertEqual([shelves.row_for("twelvesigns0", key) for key in keys], [25, 25, 25, 23, 18, 21])

    def test_arguments_by_name(self):
        shelves = Shelves(shelves=TWO)
        self.assertEqual(shelves.rows_of(name="a1"), [3, 4])
        self.assertEqual(shelves.shelf_at(row=3), "a1")
        self.assertEqual(shelves.kind_at(row=3), "stream")
        self.assertEqual(shelves.row_for(name="a1", key="a"), 3)


class TestNoSuch(unittest.TestCase):
    def refused(self, name, ask, *things):
        with self.subTest(name=name):
            with self.assertRaises(NoSuch) as caught:
                ask(*things)
            self.assertIs(type(caught.exception), NoSuch)
            self.assertEqual(caught.exception.name, name)

    def test_a_name_that_no_shelf_has(self):
        shelves = Shelves(TWO)
        for name in ["post", "posts1", "b", "table", "stream", "", "POSTS", "a1 ", "no name at all"]:
            self.refused(name, shelves.rows_of, name)
            self.refused(name, shelves.row_for, name, "key")

    def test_a_row_that_is_none(self):
        shelves = Shelves(TWO)
        for row in [5, 6, 10 ** 9, 10 ** 30, -1, -2, -5, -6, -(10 ** 30)]:
            self.refused(row, shelves.shelf_at, row)
            self.refused(row, shelves.kind_at, row)

    def test_refusals_change_nothing(self):
        shelves = Shelves(TWO)
        self.refused("x", shelves.rows_of, "x")
        self.refused("x", shelves.row_for, "x", "key")
        self.refused(-1, shelves.shelf_at, -1)
        self.refused(5, shelves.kind_at, 5)
        self.assertEqual(shelves.told(), TWO)
        self.assertEqual(shelves.many_rows(), 5)
        self.assertEqual(shelves.rows_of("a1"), [3, 4])


class TestBadWord(unittest.TestCase):
    def refused(self, thing):
        with self.subTest(thing=repr(thing)):
            with self.assertRaises(BadWord) as caught:
                Shelves(thing)
            self.assertIs(type(caught.exception), BadWord)

    def test_how_many_shelves(self):
        self.refused([])
        self.refused(SIX + [("g", 1, "table")])
        self.refused([(f"s{k}", 1, "table") for k in range(50)])

    def test_how_many_rows(self):
        for many in [0, 10, -1, 11, 10 ** 30, True, False, None, "3", 3.0, 1.5, [3], (3,), {3: 3}, object(), Agreeing()]:
            self.refused([("a", many, "table")])
            self.refused([("b", 2, "table"), ("a", many, "table")])

    def test_names_of_no_form(self):
        for name in ["", "A", "aB", "a b", "a-b", "a\n", "%", "thirteensigns", "a" * 13, None, True, 1, ["a"], ("a",),
                     {"a": 1}, b"a", object(), Agreeing()]:
            self.refused([(name, 3, "table")])
            self.refused([("b", 2, "table"), (name, 3, "table")])

    def test_other_kinds(self):
        for kind in ["", "Table", "tables", "stream ", "tabl", "queue", "tablestream", None, True, 0, 1, ["table"],
                     ("table",), ("table", "stream"), {"table": 1}, b"table", object(), Agreeing()]:
            self.refused([("a", 3, kind)])
            self.refused([("b", 2, "table"), ("a", 3, kind)])

    def test_one_name_twice(self):
        self.refused([("a", 1, "table"), ("a", 1, "table")])
        self.refused([("a", 1, "table"), ("a", 2, "stream")])
        self.refused([("a", 1, "table"), ("b", 2, "stream"), ("c", 1, "table"), ("a", 3, "stream")])

    def test_no_list(self):
        for thing in [tuple(TWO), TWO[0], None, True, False, 0, 1, "", "a", "posts", {}, {"a": 1}, {TWO[0]: TWO[1]}, set(TWO),
                      frozenset(TWO), 1.5, b"a", iter(TWO), range(3), object(), Agreeing(), Shelves(TWO), Shelves]:
            self.refused(thing)

    def test_no_tuples_of_three(self):
        for thing in [["a", 3, "table"], ("a", 3), ("a", 3, "table", "table"), ("a", 3, "table", None), ("a",), (), [], None,
                      True, 0, 3, "abc", "a3t", {"a": 3}, {0: "a", 1: 3, 2: "table"}, {"a", 3, "table"}, [("a", 3, "table")],
                      (("a", 3, "table"),), 1.5, b"abc", object(), Agreeing()]:
            self.refused([thing])
            self.refused([("b", 2, "table"), thing])
            self.refused([thing, ("b", 2, "table")])

    def test_in_another_order(self):
        self.refused([(3, "a", "table")])
        self.refused([("a", "table", 3)])
        self.refused([("table", 3, "a")])

    def test_what_is_refused_is_not_changed(self):
        handed = [("a", 1, "table"), ["b", 2, "table"]]
        self.refused(handed)
        self.assertEqual(handed, [("a", 1, "table"), ["b", 2, "table"]])


class TestOwn(unittest.TestCase):
    def stands(self, shelves):
        self.assertEqual(shelves.told(), TWO)
        self.assertEqual(shelves.many_rows(), 5)
        self.assertEqual(shelves.rows_of("posts"), [0, 1, 2])
        self.assertEqual(shelves.rows_of("a1"), [3, 4])
        self.assertEqual([shelves.shelf_at(row) for row in range(5)], ["posts"] * 3 + ["a1"] * 2)
        self.assertEqual([shelves.kind_at(row) for row in range(5)], ["table"] * 3 + ["stream"] * 2)

    def test_the_list_handed_in_is_not_kept(self):
        handed = list(TWO)
        shelves = Shelves(handed)
        handed.append(("b", 1, "table"))
        handed[0] = ("c", 9, "stream")
        self.stands(shelves)

    def test_the_list_handed_in_is_not_changed(self):
        handed = list(TWO)
        shelves = Shelves(handed)
        self.assertIsNot(shelves.told(), handed)
        shelves.told().clear()
        shelves.rows_of("a1")
        shelves.row_for("a1", "key")
        self.assertEqual(handed, TWO)

    def test_lists_told_are_the_askers_own(self):
        shelves = Shelves(TWO)
        told = shelves.told()
        told.append(("b", 1, "table"))
        told[0] = ("c", 9, "stream")
        shelves.rows_of("posts").clear()
        shelves.rows_of("a1").append(9)
        self.stands(shelves)
        self.assertEqual(told, [("c", 9, "stream"), ("a1", 2, "stream"), ("b", 1, "table")])

    def test_two_of_one_list_share_nothing(self):
        one = Shelves(TWO)
        other = Shelves(TWO)
        one.told().pop()
        one.rows_of("a1").pop()
        self.stands(other)
        third = Shelves([("x", 1, "table")])
        self.assertEqual(third.many_rows(), 1)
        self.stands(one)
