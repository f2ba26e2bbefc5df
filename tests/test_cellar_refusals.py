"""Point 82 and the refusals of each call, in their order."""

import unittest

from helper import refusal, shown
from lettercell.cellar import Cellar
from lettercell.errors import BadWord, Beyond, Busy, Doubled, Fenced, Gap, Gone, Late, Needed, NoDeed, NoSuch, NotYours
from lettercell.errors import TooOld, Twice, WrongKind

SHELVES = [("posts", 2, "table"), ("news", 2, "stream")]
TOP = 10 ** 9

NO_NAME = ["", "A", "aB", "a b", "a-b", "a;b", "thirteensigns", "%", "a\n", None, True, False, 0, 1, ["a"], ("a",), {}, b"a",
           1.5]
NO_KEY = ["", "k" * 25, "%", "a%b", "\n", "\t", "\x7f", None, True, 1, ["k"], ("k",), {}, b"k"]
NO_WORD = ["w" * 201, "%", "a%b", "\n", "\x7f", True, False, 0, 1, ["w"], ("w",), {}, b"w"]
NO_TRUTH = [None, 0, 1, "yes", "no", "True", "", [], [True], (True,)]


def no_whole(low, high):
    return [low - 1, high + 1, -1, -high, 10 ** 30, True, False, None, "1", "", [1], (1,), {}, 1.0]


NUMBER, LIFE, LOAN, DEED = no_whole(1, TOP), no_whole(1, TOP), no_whole(1, TOP), no_whole(1, TOP)
ROW, PLACE, PUT_DEED = no_whole(0, TOP), no_whole(0, TOP), no_whole(0, TOP)
TURNS, MOST = no_whole(1, 1000), no_whole(1, 1000)
TRIES, WIDTH = no_whole(1, 100), no_whole(1, 100)

# Of each call: arguments of good form that are all unknown where they can be, and what is of no form for each of them.
FORMS = {
    "hail": (["zed"], [NO_NAME]),
    "put": (["zed", TOP, TOP, "nowhere", "k", "w", TOP], [NO_NAME, LIFE, NUMBER, NO_NAME, NO_KEY, NO_WORD, PUT_DEED]),
    "begin": (["zed", TOP, 10], [NO_NAME, LIFE, TURNS]),
    "pledge": (["zed", TOP, "nogroup", TOP, TOP], [NO_NAME, LIFE, NO_NAME, ROW, LOAN]),
    "close": (["zed", TOP], [NO_NAME, LIFE]),
    "drop": (["zed", TOP], [NO_NAME, LIFE]),
    "fate_of": ([TOP], [DEED]),
    "found": (["newgroup", "nowhere", 5, 3, 1], [NO_NAME, NO_NAME, TURNS, TRIES, WIDTH]),
    "enter": (["nogroup", "zed"], [NO_NAME, NO_NAME]),
    "leave": (["nogroup", "zed"], [NO_NAME, NO_NAME]),
    "take": (["nogroup", "zed", TOP], [NO_NAME, NO_NAME, ROW]),
    "answer": (["nogroup", TOP, TOP], [NO_NAME, ROW, LOAN]),
    "give_back": (["nogroup", TOP, TOP], [NO_NAME, ROW, LOAN]),
    "pass_turns": ([5], [TURNS]),
    "attach": (["rex", TOP], [NO_NAME, ROW]),
    "detach": (["rex"], [NO_NAME]),
    "look": (["rex", 10], [NO_NAME, MOST]),
    "advance": (["rex", TOP], [NO_NAME, PLACE]),
    "draw": ([TOP], [ROW]),
    "cut": ([TOP, TOP], [ROW, PLACE]),
    "read": ([TOP, TOP, 10, True], [ROW, PLACE, MOST, NO_TRUTH]),
    "front_of": ([TOP], [ROW]),
    "floor_of": ([TOP], [ROW]),
    "drawn_of": ([TOP], [ROW]),
    "mark_of": (["nogroup", TOP], [NO_NAME, ROW]),
    "owner_of": (["nogroup", TOP], [NO_NAME, ROW]),
    "aside_of": (["nogroup", TOP], [NO_NAME, ROW]),
    "takers_of": (["nogroup"], [NO_NAME]),
}

# Of each call, which of its arguments are names or rows that have to be there, in their order, with such ones that are.
NEEDED = {
    "put": [(0, "ann"), (3, "posts")],
    "begin": [(0, "ann")],
    "pledge": [(0, "ann"), (2, "g"), (3, 0)],
    "close": [(0, "ann")],
    "drop": [(0, "ann")],
    "found": [(1, "posts")],
    "enter": [(0, "g")],
    "leave": [(0, "g"), (1, "tom")],
    "take": [(0, "g"), (1, "tom"), (2, 0)],
    "answer": [(0, "g"), (1, 0)],
    "give_back": [(0, "g"), (1, 0)],
    "attach": [(1, 0)],
    "detach": [(0, "rea")],
    "look": [(0, "rea")],
    "advance": [(0, "rea")],
    "draw": [(0, 0)],
    "cut": [(0, 0)],
    "read": [(0, 0)],
    "front_of": [(0, 0)],
    "floor_of": [(0, 0)],
    "drawn_of": [(0, 0)],
    "mark_of": [(0, "g"), (1, 0)],
    "owner_of": [(0, "g"), (1, 0)],
    "aside_of": [(0, "g"), (1, 0)],
    "takers_of": [(0, "g")],
    "fate_of": [(0, 1)],
}


def furnished():
    """A cellar in which there is one of each kind."""
    cellar = Cellar(SHELVES)
    cellar.hail("ann")
    cellar.hail("bob")
    for number in range(1, 11):
        cellar.put("ann", 1, number, "news", "k", "w")
    cellar.put("bob", 1, 1, "posts", "k", "w")
    cellar.found("g", "posts")
    cellar.enter("g", "tom")
    cellar.attach("rea", 0)
    cellar.begin("bob", 1)
    return cellar


class Case(unittest.TestCase):
    def setUp(self):
        self.cellar = furnished()

    def refused(self, kind, fields, name, *things):
        before = shown(self.cellar)
        lines = self.cellar.written()
        with self.subTest(name=name, things=things):
            self.assertEqual(refusal(kind, getattr(self.cellar, name), *things), fields)
            self.assertEqual(self.cellar.written(), lines)
            self.assertEqual(shown(self.cellar), before)


class TestForms(Case):
    def test_each_thing_that_is_of_no_form(self):
        for name, (good, wrong) in FORMS.items():
            for spot, things in enumerate(wrong):
                for thing in things:
                    handed = list(good)
                    handed[spot] = thing
                    with self.subTest(name=name, spot=spot, thing=thing):
                        refusal(BadWord, getattr(self.cellar, name), *handed)
        self.assertEqual(shown(self.cellar), shown(furnished()))

    def test_also_where_all_the_others_are_there(self):
        for name, (good, wrong) in FORMS.items():
            there = list(good)
            for spot, thing in NEEDED.get(name, []):
                there[spot] = thing
            for spot, things in enumerate(wrong):
                for thing in things:
                    handed = list(there)
                    handed[spot] = thing
                    self.refused(BadWord, (), name, *handed)

    def test_the_last_one_that_is_of_form(self):
        cellar = self.cellar
        self.assertEqual(cellar.pass_turns(1000), 1000)
        self.assertIsNone(cellar.found("twelvesigns0", "posts", 1000, 100, 100))
        self.assertIsNone(cellar.found("a", "posts", 1, 1, 1))
        self.assertEqual(cellar.put("bob", 1, 2, "posts", "k" * 24, "w" * 200, 0)[1] >= 0, True)
        self.assertEqual(cellar.put("bob", 1, 3, "posts", "~", "", 0)[1] >= 0, True)
        self.assertEqual(cellar.begin("ann", 1, 1000), 2)
        self.assertEqual(cellar.begin("bob", 1, 1), 3)
        self.assertEqual(cellar.read(0, TOP, 1000, False), [])
        self.assertEqual(cellar.read(0, 0, 1, True)[1:], [])
        self.assertEqual(cellar.look("rea", 1000)[0], cellar.read(0, 0, 1000))

    def test_shelves_of_no_form(self):
        for shelves in [[], None, tuple(SHELVES), [["posts", 2, "table"]], [("posts", 0, "table")], [("posts", 10, "table")],
                        [("posts", 1, "other")], [("P", 1, "table")], SHELVES + [("news", 1, "table")], "posts",
                        [(f"s{k}", 1, "table") for k in range(7)], [("posts", True, "table")]]:
            self.assertEqual(refusal(BadWord, Cellar, shelves), ())


class TestNoSuch(Case):
    def test_the_first_that_is_not_there(self):
        for name, needed in NEEDED.items():
            handed = list(FORMS[name][0])
            for spot, there in needed:
                self.refused(NoSuch, (handed[spot],), name, *handed)
                handed[spot] = there

    def test_rows_at_the_edge(self):
        for row in [4, 5, TOP]:
            for name in ["draw", "front_of", "floor_of", "drawn_of"]:
                self.refused(NoSuch, (row,), name, row)
            self.refused(NoSuch, (row,), "cut", row, 0)
            self.refused(NoSuch, (row,), "read", row, 0)
            self.refused(NoSuch, (row,), "attach", "rea", row)

    def test_a_row_that_is_not_of_the_groups_shelf(self):
        for row in [2, 3, 4]:
            self.refused(NoSuch, (row,), "take", "g", "tom", row)
            self.refused(NoSuch, (row,), "pledge", "bob", TOP, "g", row, 1)
            for name in ["answer", "give_back"]:
                self.refused(NoSuch, (row,), name, "g", row, 1)
            for name in ["mark_of", "owner_of", "aside_of"]:
                self.refused(NoSuch, (row,), name, "g", row)

    def test_deeds(self):
        self.refused(NoSuch, (2,), "fate_of", 2)
        self.assertEqual(self.cellar.fate_of(1), "open")

    def test_what_is_gone_is_not_there(self):
        self.cellar.leave("g", "tom")
        self.refused(NoSuch, ("tom",), "leave", "g", "tom")
        self.refused(NoSuch, ("tom",), "take", "g", "tom", 0)
        self.cellar.detach("rea")
        self.refused(NoSuch, ("rea",), "detach", "rea")
        self.refused(NoSuch, ("rea",), "look", "rea")
        self.refused(NoSuch, ("rea",), "advance", "rea", 0)

    def test_ahead_of_doubled(self):
        self.refused(NoSuch, ("nowhere",), "found", "g", "nowhere")
        self.refused(NoSuch, (9,), "attach", "rea", 9)


class TestOwnRefusals(Case):
    def test_put(self):
        self.refused(Fenced, (1,), "put", "ann", 2, 99, "posts", "k", "w", 9)
        self.refused(Fenced, (1,), "put", "ann", 2, 10, "posts", "k", "w")
        self.refused(Gap, (11,), "put", "ann", 1, 12, "posts", "k", "w", 9)
        self.refused(TooOld, (2,), "put", "ann", 1, 2, "posts", "k", "w", 9)
        self.refused(NoDeed, ("ann",), "put", "ann", 1, 11, "posts", "k", "w", 1)
        self.refused(NoDeed, ("bob",), "put", "bob", 1, 2, "posts", "k", "w", 2)
        self.assertEqual(self.cellar.put("ann", 1, 3, "posts", "k", "w", 9)[1], 2)

    def test_begin(self):
        self.refused(Fenced, (1,), "begin", "bob", 2)
        self.refused(Busy, (1,), "begin", "bob", 1)

    def test_pledge(self):
        row = self.cellar.state.shelves.row_for("posts", "k")
        loan = self.cellar.take("g", "tom", row)[3]
        self.refused(Fenced, (1,), "pledge", "ann", 2, "g", row, 99)
        self.refused(NoDeed, ("ann",), "pledge", "ann", 1, "g", row, 99)
        self.refused(Late, (row, 99), "pledge", "bob", 1, "g", row, 99)
        self.cellar.pledge("bob", 1, "g", row, loan)
        self.refused(Twice, (row, loan), "pledge", "bob", 1, "g", row, loan)
        self.cellar.answer("g", row, loan)
        self.refused(Late, (row, loan), "pledge", "bob", 1, "g", row, loan)

    def test_close_and_drop(self):
        for name in ["close", "drop"]:
            self.refused(Fenced, (1,), name, "ann", 2)
            self.refused(NoDeed, ("ann",), name, "ann", 1)
            self.refused(Fenced, (1,), name, "bob", 2)

    def test_close_is_late_for_the_first_pledge_that_is(self):
        for number, key in enumerate("abcdef", start=2):
            self.cellar.put("bob", 1, number, "posts", key, "w")
        self.cellar.found("h", "posts", 9, 3, 5)
        self.cellar.enter("h", "tim")
        loans = [(row, self.cellar.take("h", "tim", row)[3]) for row in (0, 1, 0, 1)]
        for row, loan in loans:
            self.cellar.pledge("bob", 1, "h", row, loan)
        self.cellar.answer("h", *loans[3])
        self.refused(Late, loans[3], "close", "bob", 1)
        self.cellar.give_back("h", *loans[1])
        self.refused(Late, loans[1], "close", "bob", 1)
        self.assertEqual(self.cellar.fate_of(1), "open")

    def test_groups(self):
        self.refused(Doubled, ("g",), "found", "g", "news")
        self.refused(Doubled, ("tom",), "enter", "g", "tom")
        self.cellar.enter("g", "tim")
        self.assertEqual([self.cellar.owner_of("g", row) for row in (0, 1)], ["tom", "tim"])
        self.refused(NotYours, (0, "tom"), "take", "g", "tim", 0)
        self.refused(NotYours, (1, "tim"), "take", "g", "tom", 1)
        for name in ["answer", "give_back"]:
            self.refused(Late, (0, 1), name, "g", 0, 1)
            self.refused(Late, (1, TOP), name, "g", 1, TOP)

    def test_readers(self):
        self.refused(Doubled, ("rea",), "attach", "rea", 3)
        front = self.cellar.front_of(0)
        self.refused(Beyond, (0, front), "advance", "rea", front + 1)
        self.refused(Beyond, (0, front), "advance", "rea", TOP)

    def test_rows(self):
        row = self.cellar.state.shelves.row_for("news", "k")
        for stream in [2, 3]:
            self.refused(WrongKind, (stream,), "draw", stream)
        for table in [0, 1]:
            self.refused(WrongKind, (table,), "cut", table, TOP)
            self.refused(WrongKind, (table,), "cut", table, 0)
        self.refused(Needed, (row, 10), "cut", row, 11)
        self.cellar.cut(row, 4)
        for start in range(4):
            self.refused(Gone, (row, 4), "read", row, start)
            self.refused(Gone, (row, 4), "read", row, start, 5, False)
