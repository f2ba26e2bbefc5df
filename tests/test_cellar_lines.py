"""The lines of each call, to the sign (point 88)."""

import unittest

from helper import Driver, outcome_of, shown
from lettercell.cellar import Cellar
from lettercell.lines import line_of

SHELVES = [("posts", 1, "table"), ("news", 1, "stream")]
POSTS, NEWS = 0, 1


class TestLines(unittest.TestCase):
    def setUp(self):
        self.cellar = Cellar(SHELVES)

    def writes(self, bodies, name, *things):
        """The call writes these bodies as one act, and nothing else."""
        before = self.cellar.written()
        getattr(self.cellar, name)(*things)
        wanted = []
        for k, body in enumerate(bodies):
            sign = "." if k == len(bodies) - 1 else "+"
            wanted.append(line_of(len(before) + k, sign + body))
        self.assertEqual(self.cellar.written(), before + wanted)

    def do(self, name, *things):
        return getattr(self.cellar, name)(*things)

    def test_the_making(self):
        self.assertEqual(self.cellar.written(), [line_of(0, ".shelves;posts;1;table;news;1;stream")])
        self.assertEqual(Cellar([("a", 9, "stream")]).written(), [line_of(0, ".shelves;a;9;stream")])

    def test_to_the_very_sign(self):
        cellar = Cellar([("a", 1, "table")])
        cellar.hail("b")
        # .hail;b;1: . 46; h 92^104=52; a 104^97=9; i 18^105=123; l 246^108=154; ; 308^59=271; b 542^98=636; ; 1272^59=1219;
        # 1 2438^49=2487
        self.assertEqual(cellar.written()[1], "000001 02487 0009 .hail;b;1")

    def test_hail(self):
        self.writes(["hail;ann;1"], "hail", "ann")
        self.writes(["hail;ann;2"], "hail", "ann")
        self.do("begin", "ann", 2)
        self.writes(["drop;1", "hail;ann;3"], "hail", "ann")
        self.writes(["hail;bob;1"], "hail", "bob")

    def test_put(self):
        self.do("hail", "ann")
        self.writes([f"put;ann;1;0;{NEWS};0;k;=word"], "put", "ann", 1, 1, "news", "k", "word")
        self.writes([f"put;ann;2;0;{NEWS};1;a~s~w b;=~w~s="], "put", "ann", 1, 2, "news", "a;~ b", "~;=")
        self.writes([f"put;ann;3;0;{POSTS};0;k;-"], "put", "ann", 1, 3, "posts", "k", None)
        self.writes([f"put;ann;4;0;{POSTS};1;-;=-"], "put", "ann", 1, 4, "posts", "-", "-")
        self.writes([f"put;ann;5;0;{POSTS};2;k;="], "put", "ann", 1, 5, "posts", "k", "")
        self.writes([f"put;ann;6;0;{POSTS};3;k;-"], "put", "ann", 1, 6, "posts", "k")
        self.do("begin", "ann", 1)
        self.writes([f"put;ann;7;1;{POSTS};4;k;=w"], "put", "ann", 1, 7, "posts", "k", "w", 1)
        self.writes([], "put", "ann", 1, 7, "news", "x", "y", 5)
        self.writes([], "put", "ann", 1, 1, "news", "k", "word")

    def test_the_longest_put(self):
        sender, key, word = "s" * 12, "~" * 24, ";" * 200
        self.do("hail", sender)
        self.do("put", sender, 1, 1, "news", key, word)
        body = f"put;{sender};1;0;1;0;" + "~w" * 24 + ";=" + "~s" * 200
        self.assertEqual(self.cellar.written()[-1], line_of(2, "." + body))
        self.assertEqual(self.cellar.read(NEWS, 0), [(0, key, word)])

    def test_deeds(self):
        self.do("hail", "ann")
        self.do("hail", "bob")
        self.do("pass_turns", 3)
        self.writes(["begin;1;ann;13"], "begin", "ann", 1)
        self.writes(["begin;2;bob;4"], "begin", "bob", 1, 1)
        self.do("put", "ann", 1, 1, "news", "k")
        self.do("put", "ann", 1, 2, "posts", "k", "w", 1)
        self.do("found", "g", "news")
        self.do("enter", "g", "tom")
        self.do("take", "g", "tom", NEWS)
        self.writes([f"pledge;1;g;{NEWS};1"], "pledge", "ann", 1, "g", NEWS, 1)
        self.writes(["drop;2"], "drop", "bob", 1)
        self.writes([f"answer;g;{NEWS};0;1", "close;1"], "close", "ann", 1)
        self.do("begin", "ann", 1)
        self.writes(["close;3"], "close", "ann", 1)

    def test_close_with_several_pledges(self):
        self.do("hail", "ann")
        for number in range(1, 4):
            self.do("put", "ann", 1, number, "news", "k")
        for group in ("h", "g"):
            self.do("found", group, "news", 5, 3, 3)
            self.do("enter", group, "tom")
            for n in range(3):
                self.do("take", group, "tom", NEWS)
        self.do("begin", "ann", 1)
        for group, loan in [("h", 3), ("g", 2), ("h", 1)]:
            self.do("pledge", "ann", 1, group, NEWS, loan)
        self.writes([f"answer;h;{NEWS};2;3", f"answer;g;{NEWS};1;2", f"answer;h;{NEWS};0;1", "close;1"], "close", "ann", 1)

    def test_groups(self):
        cellar = self.cellar = Cellar([("a", 1, "table"), ("b", 3, "stream")])
        self.writes(["found;g;b;5;3;1"], "found", "g", "b")
        self.writes(["found;h;a;1000;100;99"], "found", "h", "a", 1000, 100, 99)
        self.writes(["enter;g;tom", "deal;g;1;tom", "deal;g;2;tom", "deal;g;3;tom"], "enter", "g", "tom")
        self.writes(["enter;g;ann", "deal;g;3;ann"], "enter", "g", "ann")
        self.writes(["enter;g;bob", "deal;g;2;bob"], "enter", "g", "bob")
        self.writes(["enter;g;cid"], "enter", "g", "cid")
        self.writes(["leave;g;cid"], "leave", "g", "cid")
        self.writes(["leave;g;tom", "deal;g;1;ann"], "leave", "g", "tom")
        self.writes(["leave;g;bob", "deal;g;2;ann"], "leave", "g", "bob")
        self.writes(["leave;g;ann", "deal;g;1;", "deal;g;2;", "deal;g;3;"], "leave", "g", "ann")
        self.assertEqual(cellar.takers_of("g"), [])

    def test_take_answer_and_back(self):
        self.do("hail", "ann")
        for number in range(1, 5):
            self.do("put", "ann", 1, number, "news", "k")
        self.do("found", "g", "news", 2, 1, 2)
        self.do("enter", "g", "tom")
        self.do("pass_turns", 10)
        self.writes([f"lend;g;{NEWS};0;tom;1;12"], "take", "g", "tom", NEWS)
        self.writes([f"lend;g;{NEWS};1;tom;2;12"], "take", "g", "tom", NEWS)
        self.writes([], "take", "g", "tom", NEWS)
        self.writes([f"back;g;{NEWS};1;2"], "give_back", "g", NEWS, 2)
        self.do("pass_turns", 2)
        self.writes([f"aside;g;{NEWS};0", f"aside;g;{NEWS};1", f"lend;g;{NEWS};2;tom;3;14"], "take", "g", "tom", NEWS)
        self.writes([f"answer;g;{NEWS};2;3"], "answer", "g", NEWS, 3)
        self.writes([f"lend;g;{NEWS};3;tom;4;14"], "take", "g", "tom", NEWS)
        self.do("pass_turns", 2)
        self.writes([f"aside;g;{NEWS};3"], "take", "g", "tom", NEWS)
        self.writes([], "take", "g", "tom", NEWS)

    def test_turns(self):
        self.writes(["turn;1"], "pass_turns", 1)
        self.writes(["turn;1001"], "pass_turns", 1000)
        for name, turns in [("ann", 4), ("bob", 2), ("cid", 9)]:
            self.do("hail", name)
            self.do("begin", name, 1, turns)
        self.writes(["turn;1002"], "pass_turns", 1)
        self.writes(["turn;1005", "drop;1", "drop;2"], "pass_turns", 3)

    def test_readers(self):
        self.do("hail", "ann")
        for number in range(1, 5):
            self.do("put", "ann", 1, number, "news", "k")
        self.do("cut", NEWS, 1)
        self.writes([f"attach;rea;{NEWS};1"], "attach", "rea", NEWS)
        self.writes([], "look", "rea")
        self.writes(["advance;rea;3"], "advance", "rea", 3)
        self.writes([], "advance", "rea", 3)
        self.writes([], "advance", "rea", 0)
        self.writes(["detach;rea"], "detach", "rea")

    def test_draw(self):
        self.do("hail", "ann")
        self.writes([], "draw", POSTS)
        for number, key in enumerate("abaB", start=1):
            self.do("put", "ann", 1, number, "posts", key.lower(), None if key == "B" else "w")
        self.writes([f"away;{POSTS};0", f"away;{POSTS};1", f"away;{POSTS};3", f"drawn;{POSTS};4"], "draw", POSTS)
        self.writes([], "draw", POSTS)
        self.do("put", "ann", 1, 5, "posts", "c")
        self.do("attach", "rea", POSTS)
        self.writes([f"drawn;{POSTS};5"], "draw", POSTS)
        self.writes([], "draw", POSTS)
        self.do("advance", "rea", 5)
        self.writes([f"away;{POSTS};4", f"drawn;{POSTS};5"], "draw", POSTS)

    def test_drawn_to_a_floor_that_went_back(self):
        self.do("hail", "ann")
        self.do("put", "ann", 1, 1, "posts", "a")
        self.do("put", "ann", 1, 2, "posts", "b", "w")
        self.do("attach", "rea", POSTS)
        self.writes([f"drawn;{POSTS};2"], "draw", POSTS)
        self.do("found", "g", "posts")
        self.do("enter", "g", "tom")
        self.do("answer", "g", POSTS, self.do("take", "g", "tom", POSTS)[3])
        self.do("detach", "rea")
        self.writes([f"away;{POSTS};0", f"drawn;{POSTS};1"], "draw", POSTS)
        self.assertEqual(self.cellar.drawn_of(POSTS), 2)

    def test_cut(self):
        self.do("hail", "ann")
        for number in range(1, 5):
            self.do("put", "ann", 1, number, "news", "k")
        self.writes([], "cut", NEWS, 0)
        self.writes([f"cut;{NEWS};3"], "cut", NEWS, 3)
        self.writes([], "cut", NEWS, 3)
        self.writes([], "cut", NEWS, 1)
        self.writes([f"cut;{NEWS};4"], "cut", NEWS, 4)


class TestNothingElseWrites(unittest.TestCase):
    ASKING = ["fate_of", "look", "read", "front_of", "floor_of", "drawn_of", "mark_of", "owner_of", "aside_of", "takers_of"]

    def test_questions_and_refusals(self):
        for seed in range(6):
            driver = Driver(seed)
            for n in range(250):
                before, many = driver.cellar.written(), len(driver.log)
                state = shown(driver.cellar)
                driver.step()
                quiet = all(name in self.ASKING or outcome[0] == "no" for name, things, outcome in driver.log[many:])
                if quiet:
                    self.assertEqual(driver.cellar.written(), before)
                    self.assertEqual(shown(driver.cellar), state)
                if driver.cellar.written() == before:
                    self.assertEqual(shown(driver.cellar), state)
                self.assertEqual(driver.cellar.written()[:len(before)], before)

    def test_all_questions(self):
        driver = Driver(11)
        for n in range(300):
            driver.step()
        state = shown(driver.cellar)
        for name in ["front_of", "floor_of", "drawn_of", "fate_of"]:
            for row in range(7):
                outcome_of(driver.cellar, name, (row,))
        for name in ["mark_of", "owner_of", "aside_of"]:
            for group in "ghijk":
                for row in range(7):
                    outcome_of(driver.cellar, name, (group, row))
        for group in "ghijk":
            outcome_of(driver.cellar, "takers_of", (group,))
        driver.cellar.now()
        driver.cellar.written()
        self.assertEqual(shown(driver.cellar), state)
