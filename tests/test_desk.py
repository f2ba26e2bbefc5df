"""The desk: requests and answers as texts (points 94 to 96)."""

import unittest

from helper import Driver
from lettercell.cellar import Cellar
from lettercell.desk import Desk
from lettercell.lines import joined, line_of, parted
from lettercell.looker import standing, tale

# Each request with texts that are of form.
GOOD = {
    "hail": ["zed"],
    "put": ["zed", "1", "1", "nowhere", "k", "=w", "0"],
    "begin": ["zed", "1", "10"],
    "pledge": ["zed", "1", "g", "0", "1"],
    "close": ["zed", "1"],
    "drop": ["zed", "1"],
    "fate": ["1"],
    "found": ["g", "posts", "5", "3", "1"],
    "enter": ["g", "tom"],
    "leave": ["g", "tom"],
    "take": ["g", "tom", "0"],
    "answer": ["g", "0", "1"],
    "back": ["g", "0", "1"],
    "pass": ["1"],
    "now": [],
    "attach": ["rea", "0"],
    "look": ["rea", "10"],
    "advance": ["rea", "0"],
    "detach": ["rea"],
    "draw": ["0"],
    "cut": ["0", "0"],
    "read": ["0", "0", "10", "yes"],
    "front": ["0"],
    "floor": ["0"],
    "drawn": ["0"],
    "mark": ["g", "0"],
    "owner": ["g", "0"],
    "asides": ["g", "0"],
    "takers": ["g"],
    "written": [],
    "tale": ["0", "0"],
    "stands": ["0"],
}
# Which of the texts are numbers, words and truths.
NUMBERS = {"put": [1, 2, 6], "begin": [1, 2], "pledge": [1, 3, 4], "close": [1], "drop": [1], "fate": [0], "found": [2, 3, 4],
           "take": [2], "answer": [1, 2], "back": [1, 2], "pass": [0], "attach": [1], "look": [1], "advance": [1],
           "draw": [0], "cut": [0, 1], "read": [0, 1, 2], "front": [0], "floor": [0], "drawn": [0], "mark": [1],
           "owner": [1], "asides": [1], "tale": [0, 1], "stands": [0]}
NO_NUMBERS = ["", "007", "00", "01", "-1", "+1", " 1", "1 ", "1.0", "one", "1a", "0x1", "1_0", "12345678901", "~", ";", "1;2"]
NO_WORDS = ["", "w", "--", "-w", " =w", "~w", " -", "None"]
NO_TRUTHS = ["", "True", "False", "Yes", "NO", "y", "n", "1", "0", " yes", "yes "]


class Case(unittest.TestCase):
    def setUp(self):
        self.desk = Desk()

    def says(self, request, answer):
        self.assertEqual(self.desk.say(request), answer, request)

    def talk(self, rows):
        """Requests and answers by turns, a row each."""
        for row in rows.strip().split("\n"):
            request, answer = row.strip().split(" > ")
            self.says(request, answer)


class TestRequests(Case):
    def test_each_request_and_its_answer(self):
        self.talk("""
            cellar;posts;1;table;news;1;stream > ok
            now > ok;0
            hail;ann > ok;1;0
            hail;bob > ok;1;0
            put;ann;1;1;news;k~s1;=a~wb;0 > ok;1;0
            put;ann;1;1;posts;x;-;9 > ok;1;0
            put;ann;1;2;news;k;-;0 > ok;1;1
            put;ann;1;3;news;k;=;0 > ok;1;2
            read;1;0;10;yes > ok;0;k~s1;=a~wb;1;k;-;2;k;=
            read;1;1;1;no > ok;1;k;-
            read;1;9;1;no > ok
            begin;bob;1;5 > ok;1
            put;bob;1;1;posts;k;=one;1 > ok;0;0
            put;bob;1;2;news;k;=two;1 > ok;1;3
            front;0 > ok;0
            front;1 > ok;3
            fate;1 > ok;open
            found;g;news;5;3;2 > ok
            takers;g > ok
            owner;g;1 > ok;
            enter;g;tom > ok;1;;tom
            owner;g;1 > ok;tom
            enter;g;tim > ok
            leave;g;tom > ok;1;tom;tim
            takers;g > ok;tim
            take;g;tim;1 > ok;0;k~s1;=a~wb;1
            take;g;tim;1 > ok;1;k;-;2
            take;g;tim;1 > ok
            back;g;1;2 > ok;1
            pledge;bob;1;g;1;1 > ok
            close;bob;1 > ok;0;0;1;3
            fate;1 > ok;closed
            mark;g;1 > ok;1
            floor;1 > ok;1
            take;g;tim;1 > ok;1;k;-;3
            answer;g;1;3 > ok;1
            cut;1;1 > ok;0
            cut;1;0 > ok
            attach;rea;1 > ok;1
            look;rea;2 > ok;3;1;k;-;2;k;=
            look;rea;9 > ok;4;1;k;-;2;k;=;3;k;=two
            advance;rea;4 > ok;4
            look;rea;9 > ok;4
            advance;rea;2 > ok;4
            detach;rea > ok
            put;bob;1;3;posts;k;=three;0 > ok;0;1
            put;bob;1;4;posts;l;-;0 > ok;0;2
            drawn;0 > ok;0
            draw;0 > ok;0;2
            draw;0 > ok
            drawn;0 > ok;3
            begin;ann;1;3 > ok;2
            begin;bob;1;1000 > ok;3
            drop;bob;1 > ok;3
            pass;3 > ok;3
            fate;2 > ok;dropped
            asides;g;1 > ok
            tale;1;1 > ok;put ann 2 0;lent g tim 2 5;back g 2;lent g tim 3 5;answered g 3
            tale;0;0 > ok;put bob 1 1;closed;away
            tale;1;0 > ok;put ann 1 0;lent g tim 1 5;answered g 1;cut
            tale;9;9 > ok
            stands;0 > ok;1;k;=three
            stands;1 > ok;1;k;-;2;k;=;3;k;=two
            stands;7 > ok
            leave;g;tim > ok;1;tim;
        """)

    def test_asides(self):
        self.talk("""
            cellar;news;1;stream > ok
            hail;ann > ok;1;0
            put;ann;1;1;news;k;=w;0 > ok;0;0
            put;ann;1;2;news;k;=w;0 > ok;0;1
            found;g;news;1;1;9 > ok
            enter;g;tom > ok;0;;tom
            take;g;tom;0 > ok;0;k;=w;1
            take;g;tom;0 > ok;1;k;=w;2
            pass;1 > ok;1
            take;g;tom;0 > ok
            asides;g;0 > ok;0;1
            tale;0;1 > ok;put ann 2 0;lent g tom 2 1;aside g
        """)

    def test_words_that_look_like_others(self):
        self.talk("""
            cellar;a;1;table > ok
            hail;ann > ok;1;0
            put;ann;1;1;a;-;=-;0 > ok;0;0
            put;ann;1;2;a;=;==;0 > ok;0;1
            put;ann;1;3;a;a;-;0 > ok;0;2
            read;0;0;9;yes > ok;0;-;=-;1;=;==;2;a;-
        """)

    def test_written_and_up(self):
        self.says("cellar;a;1;table", "ok")
        self.says("hail;ann", "ok;1;0")
        self.says("put;ann;1;1;a;k~s;=~w;0", "ok;0;0")
        lines = [line_of(0, ".shelves;a;1;table"), line_of(1, ".hail;ann;1"), line_of(2, ".put;ann;1;0;0;0;k~s;=~w")]
        self.says("written", joined(["ok"] + lines))
        other = Desk()
        self.assertEqual(other.say(joined(["up"] + lines)), "ok;0")
        self.assertEqual(other.say("read;0;0;9;yes"), "ok;0;k~s;=~w")
        self.assertEqual(other.say(joined(["up"] + lines[:2] + [lines[2][:-1]])), "ok;1")
        self.assertEqual(other.say("read;0;0;9;yes"), "ok")
        self.assertEqual(parted(other.say("written")), ["ok"] + lines[:2])

    def test_several_left_out(self):
        cellar = Cellar([("a", 3, "table")])
        cellar.found("g", "a")
        cellar.enter("g", "tom")
        for many, left in [(6, 0), (5, 3), (4, 2), (3, 1), (2, 0), (1, 0)]:
            self.says(joined(["up"] + cellar.written()[:many]), f"ok;{left}")

    def test_two_desks_share_nothing(self):
        self.says("cellar;a;1;table", "ok")
        self.assertEqual(Desk().say("now"), "no;NoSuch;cellar")
        other = Desk()
        other.say("cellar;a;1;table")
        other.say("pass;5")
        self.says("now", "ok;0")

    def test_arguments_by_name(self):
        self.assertEqual(self.desk.say(text="now"), "no;NoSuch;cellar")


class TestForms(Case):
    def both(self, request, answer):
        """The same answer without a cellar and with one."""
        self.assertEqual(Desk().say(request), answer, request)
        desk = Desk()
        desk.say("cellar;posts;1;table")
        lines = desk.say("written")
        self.assertEqual(desk.say(request), answer, request)
        self.assertEqual(desk.say("written"), lines)

    def test_no_texts_joined(self):
        for request in ["~", "now~", "~now", "hail;a~b", "hail;~", "up;~", "cellar;a;1;table~", "now;~", "written~x"]:
            self.both(request, "no;BadWord")

    def test_names_that_are_none(self):
        for request in ["", ";", ";now", "Now", "now ", " now", "give_back;g;0;1", "pass_turns;1", "fate_of;1", "front_of;0",
                        "take_out", "asides_of;g;0", "~w", "n~sow", "cellars", "standing;0", "ok", "no", "spot;ann;1"]:
            self.both(request, "no;BadWord")

    def test_more_or_fewer_texts(self):
        for name, texts in GOOD.items():
            self.both(joined([name] + texts + [""]), "no;BadWord")
            self.both(joined([name] + texts + ["1"]), "no;BadWord")
            if texts:
                self.both(joined([name] + texts[:-1]), "no;BadWord")
                self.both(name, "no;BadWord")

    def test_numbers(self):
        for name, spots in NUMBERS.items():
            for spot in spots:
                for wrong in NO_NUMBERS:
                    texts = list(GOOD[name])
                    texts[spot] = wrong
                    self.both(joined([name] + texts), "no;BadWord")

    def test_every_other_text_is_handed_on(self):
        for name, texts in GOOD.items():
            for spot in range(len(texts)):
                if spot not in NUMBERS.get(name, []) and (name, spot) not in [("put", 5), ("read", 3)]:
                    handed = list(texts)
                    handed[spot] = "No Name;~"
                    self.assertEqual(Desk().say(joined([name] + handed)), "no;NoSuch;cellar")

    def test_words_and_truths(self):
        for wrong in NO_WORDS:
            self.both(joined(["put", "zed", "1", "1", "posts", "k", wrong, "0"]), "no;BadWord")
        for wrong in NO_TRUTHS:
            self.both(joined(["read", "0", "0", "10", wrong]), "no;BadWord")

    def test_no_cellar(self):
        for name, texts in GOOD.items():
            self.assertEqual(self.desk.say(joined([name] + texts)), "no;NoSuch;cellar")

    def test_ten_figures_are_a_number(self):
        for name in ["draw", "pass", "fate"]:
            self.says(f"{name};9999999999", "no;NoSuch;cellar")
        self.says("cellar;a;1;table", "ok")
        for name in ["draw", "pass", "fate"]:
            self.says(f"{name};9999999999", "no;BadWord")
        self.says("draw;1000000000", "no;NoSuch;1000000000")
        self.says("draw;1000000001", "no;BadWord")
        self.says("tale;9999999999;9999999999", "ok")
        self.says("stands;9999999999", "ok")

    def test_the_cellars_own_forms(self):
        self.says("cellar;posts;1;table", "ok")
        for request in ["hail;A", "hail;", "put;zed;0;1;posts;k;=w;0", "put;zed;1;0;posts;k;=w;0", "put;zed;1;1;posts;;=w;0",
                        f"put;zed;1;1;posts;{'k' * 25};=w;0", f"put;zed;1;1;posts;k;={'w' * 201};0", "pass;0", "pass;1001",
                        "found;g;posts;0;3;1", "found;g;posts;5;101;1", "look;rea;0", "fate;0", "read;0;0;0;yes"]:
            self.says(request, "no;BadWord")
        self.says("now", "ok;0")


class TestMaking(Case):
    def test_cellar_refused_leaves_the_old_one(self):
        self.says("cellar;posts;1;table", "ok")
        self.says("pass;7", "ok;7")
        for request in ["cellar", "cellar;a", "cellar;a;1", "cellar;a;1;table;b", "cellar;a;1;table;b;1", "cellar;a;0;table",
                        "cellar;a;10;table", "cellar;a;01;table", "cellar;a;x;table", "cellar;a;1;other", "cellar;A;1;table",
                        "cellar;a;1;table;a;1;table", "cellar" + "".join(f";s{k};1;table" for k in range(7))]:
            self.says(request, "no;BadWord")
            self.says("now", "ok;7")

    def test_cellar_takes_the_place_of_the_old_one(self):
        self.says("cellar;posts;1;table", "ok")
        self.says("pass;7", "ok;7")
        self.says("cellar;a;9;stream;b;1;table", "ok")
        self.says("now", "ok;0")
        self.says("front;9", "ok;0")
        self.says("cellar" + "".join(f";s{k};9;table" for k in range(6)), "ok")
        self.says("front;53", "ok;0")

    def test_cellar_refused_where_there_is_none(self):
        self.says("cellar;a;10;table", "no;BadWord")
        self.says("now", "no;NoSuch;cellar")

    def test_up_refused_leaves_the_old_one(self):
        self.says("up", "no;Broken;0")
        self.says("up;", "no;Broken;0")
        self.says("now", "no;NoSuch;cellar")
        self.says("cellar;posts;1;table", "ok")
        self.says("pass;7", "ok;7")
        lines = parted(self.desk.say("written"))[1:]
        for handed, number in [([], 0), ([""], 0), ([lines[0] + "x"], 0), ([lines[0] + "x", lines[1]], 0),
                               (lines[:1] + ["x"] + lines[1:], 1), (lines + ["x", "y"], 2), (lines[1:], 0)]:
            self.says(joined(["up"] + handed), f"no;Broken;{number}")
            self.says("now", "ok;7")
        self.says(joined(["up", lines[0]]), "ok;0")
        self.says("now", "ok;0")

    def test_up_where_there_is_none(self):
        self.says(joined(["up", line_of(0, ".shelves;a;1;table")]), "ok;0")
        self.says("now", "ok;0")


class TestRefusals(Case):
    def test_each_refusal_with_its_fields(self):
        self.talk("""
            cellar;posts;1;table;news;1;stream > ok
            hail;ann > ok;1;0
            put;bob;1;1;posts;k;=w;0 > no;NoSuch;bob
            put;ann;1;1;nowhere;k;=w;0 > no;NoSuch;nowhere
            front;2 > no;NoSuch;2
            fate;1 > no;NoSuch;1
            put;ann;2;1;news;k;=w;0 > no;Fenced;1
            put;ann;1;2;news;k;=w;0 > no;Gap;1
            put;ann;1;1;news;k;=w;1 > no;NoDeed;ann
            close;ann;1 > no;NoDeed;ann
            drop;ann;1 > no;NoDeed;ann
            begin;ann;1;10 > ok;1
            begin;ann;1;10 > no;Busy;1
            put;ann;1;1;news;k;=w;0 > ok;1;0
            found;g;news;5;3;1 > ok
            found;g;posts;5;3;1 > no;Doubled;g
            enter;g;tom > ok;1;;tom
            enter;g;tom > no;Doubled;tom
            enter;g;tim > ok
            take;g;tim;1 > no;NotYours;1;tom
            take;g;tom;0 > no;NoSuch;0
            take;g;tom;1 > ok;0;k;=w;1
            answer;g;1;2 > no;Late;1;2
            back;g;1;2 > no;Late;1;2
            pledge;ann;1;g;1;2 > no;Late;1;2
            pledge;ann;1;g;1;1 > ok
            pledge;ann;1;g;1;1 > no;Twice;1;1
            draw;1 > no;WrongKind;1
            cut;0;0 > no;WrongKind;0
            cut;1;1 > no;Needed;1;0
            close;ann;1 > ok
            cut;1;1 > ok;0
            read;1;0;9;yes > no;Gone;1;1
            attach;rea;1 > ok;1
            attach;rea;0 > no;Doubled;rea
            advance;rea;2 > no;Beyond;1;1
            detach;rex > no;NoSuch;rex
            leave;g;zed > no;NoSuch;zed
        """)
        for number in range(2, 11):
            self.says(f"put;ann;1;{number};news;k;=w;0", f"ok;1;{number - 1}")
        self.says("put;ann;1;2;news;k;=w;0", "no;TooOld;2")

    def test_a_refusal_changes_nothing(self):
        self.says("cellar;posts;1;table", "ok")
        lines = self.desk.say("written")
        for request in ["put;ann;1;1;posts;k;=w;0", "fate;1", "enter;g;tom", "draw;7", "cut;0;9", "advance;r;1", "pass;0"]:
            self.assertTrue(self.desk.say(request).startswith("no;"))
            self.assertEqual(self.desk.say("written"), lines)


def texts_of(value):
    """What a call tells, laid out."""
    if isinstance(value, (list, tuple)):
        return [text for part in value for text in texts_of(part)]
    return ["" if value is None else str(value)]


class TestLongRuns(unittest.TestCase):
    NAMES = {"pass_turns": "pass", "give_back": "back"}
    LETTERS = ("take", "look", "read")

    def laid_out(self, name, told):
        if told is None:
            return []
        if name == "take":
            return [str(told[0]), told[1], "-" if told[2] is None else "=" + told[2], str(told[3])]
        if name in ("look", "read"):
            texts = [str(told[1])] if name == "look" else []
            for place, key, word in told[0] if name == "look" else told:
                texts.extend([str(place), key, "-" if word is None else "=" + word])
            return texts
        return texts_of(told)

    def request(self, name, things):
        texts = [self.NAMES.get(name, name)]
        for k, thing in enumerate(things):
            if name == "put" and k == 5:
                texts.append("-" if thing is None else "=" + thing)
            elif isinstance(thing, bool):
                texts.append("yes" if thing else "no")
            else:
                texts.append(str(thing))
        return joined(texts)

    def test_as_the_cellar_answers(self):
        for seed in range(90, 96):
            driver = Driver(seed)
            desk = Desk()
            desk.say("cellar;posts;2;table;news;2;stream;logs;1;table")
            for n in range(400):
                driver.step()
            for name, things, outcome in driver.log:
                told = desk.say(self.request(name, things))
                if outcome[0] == "ok":
                    self.assertEqual(told, joined(["ok"] + self.laid_out(name, outcome[1])))
                else:
                    self.assertEqual(told, joined(["no", outcome[1]] + texts_of(outcome[2])))
            lines = driver.cellar.written()
            self.assertEqual(parted(desk.say("written")), ["ok"] + lines)
            for row in range(6):
                letters = parted(desk.say(f"stands;{row}"))[1:]
                wanted = [part for letter in standing(lines, row) for part in
                          (str(letter[0]), letter[1], "-" if letter[2] is None else "=" + letter[2])]
                self.assertEqual(letters, wanted)
                for place in range(30):
                    events = [" ".join(str(part) for part in event) for event in tale(lines, row, place)]
                    self.assertEqual(parted(desk.say(f"tale;{row};{place}")), ["ok"] + events)
