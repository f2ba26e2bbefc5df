import unittest

from helper import refusal, shown
from lettercell import asks
from lettercell.errors import BadWord, Beyond, Busy, Doubled, Fenced, Gap, Gone, Late, Needed, NoDeed, NoSuch, NotYours
from lettercell.errors import TooOld, Twice, WrongKind
from lettercell.events import body_for, happen
from lettercell.state import State

SHELVES = [("posts", 2, "table"), ("news", 1, "stream")]
NO_NAMES = ["", "A", "a b", "thirteensigns", "a;b", None, True, 1, ["a"], ("a",), {}, b"a"]
TOP = 10 ** 9


def no_wholes(low, high):
    return [low - 1, high + 1, True, False, None, "1", [1], (1,), 1.0]


def wrong_letters(at):
    """Letters with one thing that is of no form, at the key (0) or at the word (1)."""
    wrong = ["\n", "%", "a\tb", 1, True, ["a"], b"a"] + (["", "k" * 25, None] if at == 0 else ["w" * 201])
    return [("k", thing) if at else (thing, "w") for thing in wrong]


class Case(unittest.TestCase):
    def setUp(self):
        self.state = State(SHELVES)

    def do(self, asked):
        for event in asked[0]:
            happen(self.state, event)
        return asked[1]

    def told(self, ask, *things):
        """The bodies of an act's events and what it tells; asking changes nothing."""
        before = shown(self.state)
        events, answer = ask(self.state, *things)
        self.assertEqual(shown(self.state), before)
        return ([body_for(event) for event in events], answer)

    def refused(self, kind, fields, ask, *things):
        before = shown(self.state)
        self.assertEqual(refusal(kind, ask, self.state, *things), fields, things)
        self.assertEqual(shown(self.state), before)

    def bad_words(self, ask, good, wrong):
        """Each thing of no form in its spot, all others as they are."""
        for spot, things in wrong.items():
            for thing in things:
                self.refused(BadWord, (), ask, *good[:spot], thing, *good[spot + 1:])

    def put(self, number, shelf="posts", key="a", word="w", deed=0, sender="ann"):
        return self.do(asks.put_act(self.state, sender, 1, number, shelf, (key, word), deed))

    def lent(self):
        """A group with a taker, to which the first of two letters is lent in each of two rows."""
        self.do(asks.hail_act(self.state, "ann"))
        for number in range(1, 5):
            self.put(number, "news", "k")
        self.do(asks.found_act(self.state, "g", "news", 5, 2, 1))
        self.do(asks.enter_act(self.state, "g", "tom"))
        return self.do(asks.take_act(self.state, "g", "tom", 2))


class TestSenders(Case):
    def test_hail(self):
        self.assertEqual(self.told(asks.hail_act, "ann"), (["hail;ann;1"], (1, 0)))
        self.do(asks.hail_act(self.state, "ann"))
        self.put(1)
        self.assertEqual(self.told(asks.hail_act, "ann"), (["hail;ann;2"], (2, 1)))
        self.do(asks.begin_act(self.state, "ann", 1, 10))
        self.assertEqual(self.told(asks.hail_act, "ann"), (["drop;1", "hail;ann;2"], (2, 1)))
        self.bad_words(asks.hail_act, ["ann"], {0: NO_NAMES})

    def test_put(self):
        self.do(asks.hail_act(self.state, "ann"))
        row = self.state.shelves.row_for("posts", "a")
        self.assertEqual(self.told(asks.put_act, "ann", 1, 1, "posts", ("a", "w"), 0),
                         ([f"put;ann;1;0;{row};0;a;=w"], (row, 0)))
        self.assertEqual(self.put(1), (row, 0))
        self.assertEqual(self.told(asks.put_act, "ann", 1, 1, "news", ("b", None), 99), ([], (row, 0)))
        self.assertEqual(self.told(asks.put_act, "ann", 1, 2, "posts", ("a", None), 0),
                         ([f"put;ann;2;0;{row};1;a;-"], (row, 1)))
        self.do(asks.begin_act(self.state, "ann", 1, 10))
        self.assertEqual(self.told(asks.put_act, "ann", 1, 2, "news", ("a", ""), 1), (["put;ann;2;1;2;0;a;="], (2, 0)))

    def test_put_refused(self):
        good = ["ann", 1, 1, "posts", ("a", "w"), 0]
        self.bad_words(asks.put_act, good, {0: NO_NAMES, 1: no_wholes(1, TOP), 2: no_wholes(1, TOP), 3: NO_NAMES,
                                            4: wrong_letters(0) + wrong_letters(1), 5: no_wholes(0, TOP)})
        self.refused(NoSuch, ("ann",), asks.put_act, "ann", 9, 9, "nowhere", ("a", "w"), 9)
        self.do(asks.hail_act(self.state, "ann"))
        self.refused(NoSuch, ("nowhere",), asks.put_act, "ann", 9, 9, "nowhere", ("a", "w"), 9)
        self.refused(Fenced, (1,), asks.put_act, "ann", 9, 9, "posts", ("a", "w"), 9)
        self.refused(Gap, (1,), asks.put_act, "ann", 1, 9, "posts", ("a", "w"), 9)
        self.refused(NoDeed, ("ann",), asks.put_act, "ann", 1, 1, "posts", ("a", "w"), 9)
        for number in range(1, 10):
            self.put(number)
        self.refused(TooOld, (1,), asks.put_act, "ann", 1, 1, "posts", ("a", "w"), 9)
        self.do(asks.begin_act(self.state, "ann", 1, 10))
        self.refused(NoDeed, ("ann",), asks.put_act, "ann", 1, 10, "posts", ("a", "w"), 2)

    def test_begin_and_drop(self):
        self.refused(NoSuch, ("ann",), asks.begin_act, "ann", 7, 10)
        self.refused(NoSuch, ("ann",), asks.drop_act, "ann", 7)
        self.do(asks.hail_act(self.state, "ann"))
        self.do(asks.pass_act(self.state, 3))
        self.assertEqual(self.told(asks.begin_act, "ann", 1, 10), (["begin;1;ann;13"], 1))
        self.refused(NoDeed, ("ann",), asks.drop_act, "ann", 1)
        self.do(asks.begin_act(self.state, "ann", 1, 1000))
        self.refused(Fenced, (1,), asks.begin_act, "ann", 2, 10)
        self.refused(Busy, (1,), asks.begin_act, "ann", 1, 10)
        self.refused(Fenced, (1,), asks.drop_act, "ann", 2)
        self.assertEqual(self.told(asks.drop_act, "ann", 1), (["drop;1"], 1))
        self.bad_words(asks.begin_act, ["ann", 1, 10], {0: NO_NAMES, 1: no_wholes(1, TOP), 2: no_wholes(1, 1000)})
        self.bad_words(asks.drop_act, ["ann", 1], {0: NO_NAMES, 1: no_wholes(1, TOP)})

    def test_pledge_and_close(self):
        self.refused(NoSuch, ("ann",), asks.close_act, "ann", 7)
        self.assertEqual(self.lent(), (0, "k", "w", 1))
        self.refused(NoDeed, ("ann",), asks.pledge_act, "ann", 1, "g", 2, 9)
        self.refused(NoDeed, ("ann",), asks.close_act, "ann", 1)
        self.do(asks.begin_act(self.state, "ann", 1, 10))
        self.refused(NoSuch, ("bob",), asks.pledge_act, "bob", 7, "h", 0, 9)
        self.refused(NoSuch, ("h",), asks.pledge_act, "ann", 7, "h", 0, 9)
        for row in [0, 3, TOP]:
            self.refused(NoSuch, (row,), asks.pledge_act, "ann", 7, "g", row, 9)
        self.refused(Fenced, (1,), asks.pledge_act, "ann", 7, "g", 2, 9)
        self.refused(Late, (2, 9), asks.pledge_act, "ann", 1, "g", 2, 9)
        self.assertEqual(self.told(asks.pledge_act, "ann", 1, "g", 2, 1), (["pledge;1;g;2;1"], None))
        self.do(asks.pledge_act(self.state, "ann", 1, "g", 2, 1))
        self.refused(Twice, (2, 1), asks.pledge_act, "ann", 1, "g", 2, 1)
        row = self.put(5, key="z", deed=1)[0]
        self.assertEqual(self.told(asks.close_act, "ann", 1), (["answer;g;2;0;1", "close;1"], [(row, 0)]))
        self.refused(Fenced, (1,), asks.close_act, "ann", 3)
        self.do(asks.pass_act(self.state, 5))
        self.refused(Late, (2, 1), asks.close_act, "ann", 1)
        self.refused(Late, (2, 1), asks.pledge_act, "ann", 1, "g", 2, 1)
        good = ["ann", 1, "g", 2, 1]
        self.bad_words(asks.pledge_act, good, {0: NO_NAMES, 1: no_wholes(1, TOP), 2: NO_NAMES, 3: no_wholes(0, TOP),
                                               4: no_wholes(1, TOP)})
        self.bad_words(asks.close_act, ["ann", 1], {0: NO_NAMES, 1: no_wholes(1, TOP)})


class TestGroups(Case):
    def test_found(self):
        self.assertEqual(self.told(asks.found_act, "g", "posts", 5, 3, 1), (["found;g;posts;5;3;1"], None))
        self.do(asks.found_act(self.state, "g", "posts", 1000, 100, 100))
        self.refused(NoSuch, ("nowhere",), asks.found_act, "g", "nowhere", 5, 3, 1)
        self.refused(Doubled, ("g",), asks.found_act, "g", "news", 5, 3, 1)
        self.bad_words(asks.found_act, ["h", "posts", 5, 3, 1],
                       {0: NO_NAMES, 1: NO_NAMES, 2: no_wholes(1, 1000), 3: no_wholes(1, 100), 4: no_wholes(1, 100)})

    def test_enter_and_leave(self):
        for ask in (asks.enter_act, asks.leave_act):
            self.refused(NoSuch, ("g",), ask, "g", "tom")
            self.bad_words(ask, ["g", "tom"], {0: NO_NAMES, 1: NO_NAMES})
        self.do(asks.found_act(self.state, "g", "posts", 5, 3, 1))
        self.refused(NoSuch, ("tom",), asks.leave_act, "g", "tom")
        self.assertEqual(self.told(asks.enter_act, "g", "tom"),
                         (["enter;g;tom", "deal;g;0;tom", "deal;g;1;tom"], [(0, None, "tom"), (1, None, "tom")]))
        self.do(asks.enter_act(self.state, "g", "tom"))
        self.refused(Doubled, ("tom",), asks.enter_act, "g", "tom")
        self.assertEqual(self.told(asks.leave_act, "g", "tom"),
                         (["leave;g;tom", "deal;g;0;", "deal;g;1;"], [(0, "tom", None), (1, "tom", None)]))
        self.do(asks.enter_act(self.state, "g", "ann"))
        self.assertEqual(self.told(asks.enter_act, "g", "bob"), (["enter;g;bob"], []))

    def test_take(self):
        self.lent()
        self.assertEqual(self.told(asks.take_act, "g", "tom", 2), ([], None))
        self.do(asks.loan_act("back", self.state, "g", 2, 1))
        self.assertEqual(self.told(asks.take_act, "g", "tom", 2), (["lend;g;2;0;tom;2;5"], (0, "k", "w", 2)))
        self.do(asks.take_act(self.state, "g", "tom", 2))
        self.do(asks.pass_act(self.state, 5))
        self.assertEqual(self.told(asks.take_act, "g", "tom", 2),
                         (["aside;g;2;0", "lend;g;2;1;tom;3;10"], (1, "k", "w", 3)))

    def test_take_refused(self):
        self.bad_words(asks.take_act, ["g", "tom", 2], {0: NO_NAMES, 1: NO_NAMES, 2: no_wholes(0, TOP)})
        self.refused(NoSuch, ("g",), asks.take_act, "g", "tom", 99)
        self.lent()
        self.refused(NoSuch, ("bob",), asks.take_act, "g", "bob", 99)
        for row in [0, 1, 3, TOP]:
            self.refused(NoSuch, (row,), asks.take_act, "g", "tom", row)
        self.do(asks.enter_act(self.state, "g", "bob"))
        self.refused(NotYours, (2, "tom"), asks.take_act, "g", "bob", 2)

    def test_answer_and_back(self):
        for name in ("answer", "back"):
            self.setUp()

            def ask(state, *things):
                return asks.loan_act(name, state, *things)

            self.bad_words(ask, ["g", 2, 1], {0: NO_NAMES, 1: no_wholes(0, TOP), 2: no_wholes(1, TOP)})
            self.refused(NoSuch, ("g",), ask, "g", 0, 1)
            self.lent()
            self.refused(NoSuch, (0,), ask, "g", 0, 1)
            self.refused(NoSuch, (3,), ask, "g", 3, 1)
            self.refused(Late, (2, 2), ask, "g", 2, 2)
            self.assertEqual(self.told(ask, "g", 2, 1), ([f"{name};g;2;0;1"], 0))
            self.do(asks.pass_act(self.state, 5))
            self.refused(Late, (2, 1), ask, "g", 2, 1)

    def test_pass(self):
        self.do(asks.hail_act(self.state, "ann"))
        self.do(asks.hail_act(self.state, "bob"))
        self.do(asks.begin_act(self.state, "bob", 1, 4))
        self.do(asks.begin_act(self.state, "ann", 1, 3))
        self.assertEqual(self.told(asks.pass_act, 2), (["turn;2"], 2))
        self.assertEqual(self.told(asks.pass_act, 3), (["turn;3", "drop;2"], 3))
        self.assertEqual(self.told(asks.pass_act, 1000), (["turn;1000", "drop;1", "drop;2"], 1000))
        self.bad_words(asks.pass_act, [1], {0: no_wholes(1, 1000)})


class TestReadersAndRows(Case):
    def letters(self, shelf="news"):
        self.do(asks.hail_act(self.state, "ann"))
        for number, key in enumerate("kklk", start=1):
            self.put(number, shelf, key, None if number == 4 else f"w{number}")

    def test_attach_and_detach(self):
        self.letters()
        self.refused(NoSuch, (3,), asks.attach_act, "rea", 3)
        self.refused(NoSuch, ("rea",), asks.detach_act, "rea")
        self.state.rows[2].cut_to(2)
        self.assertEqual(self.told(asks.attach_act, "rea", 2), (["attach;rea;2;2"], 2))
        self.do(asks.attach_act(self.state, "rea", 2))
        self.refused(NoSuch, (9,), asks.attach_act, "rea", 9)
        self.refused(Doubled, ("rea",), asks.attach_act, "rea", 0)
        self.assertEqual(self.told(asks.detach_act, "rea"), (["detach;rea"], None))
        self.bad_words(asks.attach_act, ["rex", 2], {0: NO_NAMES, 1: no_wholes(0, TOP)})
        self.bad_words(asks.detach_act, ["rea"], {0: NO_NAMES})

    def test_look_and_advance(self):
        self.letters()
        self.refused(NoSuch, ("rea",), asks.looked_at, "rea", 5)
        self.refused(NoSuch, ("rea",), asks.advance_act, "rea", 99)
        self.do(asks.attach_act(self.state, "rea", 2))
        letters = [(0, "k", "w1"), (1, "k", "w2"), (2, "l", "w3"), (3, "k", None)]
        self.assertEqual(asks.looked_at(self.state, "rea", 5), (letters, 4))
        self.assertEqual(asks.looked_at(self.state, "rea", 4), (letters, 4))
        self.assertEqual(asks.looked_at(self.state, "rea", 2), (letters[:2], 2))
        self.assertEqual(self.told(asks.advance_act, "rea", 4), (["advance;rea;4"], 4))
        self.refused(Beyond, (2, 4), asks.advance_act, "rea", 5)
        self.do(asks.advance_act(self.state, "rea", 3))
        for place in [0, 2, 3]:
            self.assertEqual(self.told(asks.advance_act, "rea", place), ([], 3))
        self.bad_words(asks.looked_at, ["rea", 5], {0: NO_NAMES, 1: no_wholes(1, 1000)})
        self.bad_words(asks.advance_act, ["rea", 3], {0: NO_NAMES, 1: no_wholes(0, TOP)})

    def test_draw(self):
        self.letters("posts")
        row = self.state.shelves.row_for("posts", "k")
        self.refused(NoSuch, (3,), asks.draw_act, 3)
        self.refused(WrongKind, (2,), asks.draw_act, 2)
        self.bad_words(asks.draw_act, [0], {0: no_wholes(0, TOP)})
        events, away = self.told(asks.draw_act, row)
        end = self.state.rows[row].end
        self.assertEqual(events, [f"away;{row};{place}" for place in away] + [f"drawn;{row};{end}"])
        self.do(asks.attach_act(self.state, "rea", row))
        self.assertEqual(self.told(asks.draw_act, row)[1], away[:-1])
        self.do(asks.draw_act(self.state, row))
        self.assertEqual(self.told(asks.draw_act, row), ([], []))

    def test_cut(self):
        self.letters()
        self.refused(NoSuch, (3,), asks.cut_act, 3, 0)
        self.refused(WrongKind, (0,), asks.cut_act, 0, 99)
        self.bad_words(asks.cut_act, [2, 0], {0: no_wholes(0, TOP), 1: no_wholes(0, TOP)})
        self.refused(Needed, (2, 4), asks.cut_act, 2, 5)
        self.assertEqual(self.told(asks.cut_act, 2, 0), ([], []))
        self.assertEqual(self.told(asks.cut_act, 2, 4), (["cut;2;4"], [0, 1, 2, 3]))
        self.do(asks.attach_act(self.state, "rea", 2))
        self.do(asks.advance_act(self.state, "rea", 3))
        self.refused(Needed, (2, 3), asks.cut_act, 2, 4)
        self.do(asks.found_act(self.state, "g", "news", 5, 3, 1))
        self.refused(Needed, (2, 0), asks.cut_act, 2, 1)

    def test_read(self):
        self.letters()
        self.do(asks.begin_act(self.state, "ann", 1, 10))
        self.put(5, "news", "k", "w5", 1)
        self.refused(NoSuch, (3,), asks.read_from, 3, 0, 10, True)
        self.assertEqual(asks.read_from(self.state, 2, 1, 2, True), [(1, "k", "w2"), (2, "l", "w3")])
        self.assertEqual(asks.read_from(self.state, 2, 3, 9, True), [(3, "k", None)])
        self.assertEqual(asks.read_from(self.state, 2, 3, 9, False), [(3, "k", None), (4, "k", "w5")])
        self.do(asks.cut_act(self.state, 2, 3))
        self.refused(Gone, (2, 3), asks.read_from, 2, 2, 9, True)
        self.refused(Gone, (2, 3), asks.read_from, 2, 0, 9, False)
        self.bad_words(asks.read_from, [2, 3, 9, True], {0: no_wholes(0, TOP), 1: no_wholes(0, TOP), 2: no_wholes(1, 1000),
                                                         3: [None, 0, 1, "yes", "True", [], [True]]})

    def test_questions_about_rows_and_groups(self):
        self.bad_words(asks.asked_row, [0], {0: no_wholes(0, TOP)})
        self.refused(NoSuch, (3,), asks.asked_row, 3)
        self.bad_words(asks.asked_group, ["g"], {0: NO_NAMES})
        self.refused(NoSuch, ("g",), asks.asked_group, "g")
        self.refused(NoSuch, ("g",), asks.asked_group_row, "g", 99)
        self.lent()
        self.bad_words(asks.asked_group_row, ["g", 2], {0: NO_NAMES, 1: no_wholes(0, TOP)})
        self.refused(NoSuch, (1,), asks.asked_group_row, "g", 1)
        self.refused(NoSuch, (99,), asks.asked_group_row, "g", 99)
        self.assertIsNone(asks.asked_group_row(self.state, "g", 2))
