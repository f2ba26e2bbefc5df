"""The looker: what became of each letter, from written lines alone (points 91 to 93, and 7, Tales)."""

import unittest

from helper import GROUPS, ROWS, SENDERS, Driver, outcome_of, refusal
from lettercell.book import acts_of
from lettercell.cellar import Cellar, come_up
from lettercell.errors import Broken
from lettercell.looker import asides, spot_told, standing, tale

SHELVES = [("posts", 1, "table"), ("news", 1, "stream")]
POSTS, NEWS = 0, 1


class TestTales(unittest.TestCase):
    def setUp(self):
        self.cellar = Cellar(SHELVES)
        self.cellar.hail("ann")
        self.cellar.hail("bob")

    def tale(self, row, place):
        return tale(self.cellar.written(), row, place)

    def group(self, turns=5, tries=3, width=1):
        self.cellar.found("g", "news", turns, tries, width)
        self.cellar.enter("g", "tom")

    def take(self):
        return self.cellar.take("g", "tom", NEWS)[3]

    def test_put(self):
        self.cellar.put("ann", 1, 1, "news", "k", "w")
        self.cellar.put("bob", 1, 1, "news", "k")
        self.assertEqual(self.tale(NEWS, 0), [("put", "ann", 1, 0)])
        self.assertEqual(self.tale(NEWS, 1), [("put", "bob", 1, 0)])
        self.assertIs(type(self.tale(NEWS, 1)[0]), tuple)

    def test_put_again_is_no_line(self):
        self.cellar.put("ann", 1, 1, "news", "k", "w")
        self.cellar.put("ann", 1, 1, "news", "k", "w")
        self.assertEqual(self.tale(NEWS, 0), [("put", "ann", 1, 0)])

    def test_closed_and_dropped(self):
        self.cellar.begin("ann", 1)
        self.cellar.begin("bob", 1)
        self.cellar.put("ann", 1, 1, "news", "k", "w", 1)
        self.cellar.put("bob", 1, 1, "news", "k", "w", 2)
        self.cellar.put("ann", 1, 2, "news", "k", "w")
        self.assertEqual(self.tale(NEWS, 0), [("put", "ann", 1, 1)])
        self.cellar.close("ann", 1)
        self.cellar.drop("bob", 1)
        self.assertEqual(self.tale(NEWS, 0), [("put", "ann", 1, 1), ("closed",)])
        self.assertEqual(self.tale(NEWS, 1), [("put", "bob", 1, 2), ("dropped",)])
        self.assertEqual(self.tale(NEWS, 2), [("put", "ann", 2, 0)])

    def test_dropped_by_a_hail_and_by_turns(self):
        self.cellar.begin("ann", 1)
        self.cellar.begin("bob", 1, 3)
        self.cellar.put("ann", 1, 1, "news", "k", "w", 1)
        self.cellar.put("bob", 1, 1, "posts", "k", "w", 2)
        self.cellar.hail("ann")
        self.cellar.pass_turns(3)
        self.assertEqual(self.tale(NEWS, 0), [("put", "ann", 1, 1), ("dropped",)])
        self.assertEqual(self.tale(POSTS, 0), [("put", "bob", 1, 2), ("dropped",)])

    def test_lent_back_answered(self):
        self.cellar.put("ann", 1, 1, "news", "k", "w")
        self.cellar.put("ann", 1, 2, "news", "k", "w")
        self.group()
        self.cellar.pass_turns(7)
        self.cellar.give_back("g", NEWS, self.take())
        self.cellar.answer("g", NEWS, self.take())
        self.take()
        self.assertEqual(self.tale(NEWS, 0), [("put", "ann", 1, 0), ("lent", "g", "tom", 1, 12), ("back", "g", 1),
                                              ("lent", "g", "tom", 2, 12), ("answered", "g", 2)])
        self.assertEqual(self.tale(NEWS, 1), [("put", "ann", 2, 0), ("lent", "g", "tom", 3, 12)])

    def test_answered_by_a_deed(self):
        self.cellar.put("ann", 1, 1, "news", "k", "w")
        self.group()
        loan = self.take()
        self.cellar.begin("bob", 1)
        self.cellar.put("bob", 1, 1, "posts", "k", "w", 1)
        self.cellar.pledge("bob", 1, "g", NEWS, loan)
        self.assertEqual(self.tale(NEWS, 0)[2:], [])
        self.cellar.close("bob", 1)
        self.assertEqual(self.tale(NEWS, 0)[2:], [("answered", "g", 1)])
        self.assertEqual(self.tale(POSTS, 0), [("put", "bob", 1, 1), ("closed",)])

    def test_aside_and_several_groups(self):
        self.cellar.put("ann", 1, 1, "news", "k", "w")
        self.group(turns=2, tries=1)
        self.cellar.found("h", "news")
        self.cellar.enter("h", "tim")
        self.take()
        self.cellar.take("h", "tim", NEWS)
        self.cellar.pass_turns(2)
        self.assertIsNone(self.cellar.take("g", "tom", NEWS))
        self.cellar.answer("h", NEWS, 1)
        self.assertEqual(self.tale(NEWS, 0), [("put", "ann", 1, 0), ("lent", "g", "tom", 1, 2), ("lent", "h", "tim", 1, 5),
                                              ("aside", "g"), ("answered", "h", 1)])

    def test_away(self):
        self.cellar.put("ann", 1, 1, "posts", "k", "w")
        self.cellar.put("ann", 1, 2, "posts", "k", "w")
        self.cellar.draw(POSTS)
        self.assertEqual(self.tale(POSTS, 0), [("put", "ann", 1, 0), ("away",)])
        self.assertEqual(self.tale(POSTS, 1), [("put", "ann", 2, 0)])

    def test_cut_where_it_stood_till_then(self):
        for number in range(1, 4):
            self.cellar.put("ann", 1, number, "news", "k", "w")
        self.cellar.begin("bob", 1)
        self.cellar.put("bob", 1, 1, "news", "k", "w", 1)
        self.cellar.drop("bob", 1)
        self.cellar.put("ann", 1, 4, "news", "k", "w")
        self.cellar.cut(NEWS, 1)
        self.cellar.cut(NEWS, 2)
        self.cellar.cut(NEWS, 4)
        self.assertEqual(self.tale(NEWS, 0), [("put", "ann", 1, 0), ("cut",)])
        self.assertEqual(self.tale(NEWS, 1), [("put", "ann", 2, 0), ("cut",)])
        self.assertEqual(self.tale(NEWS, 2), [("put", "ann", 3, 0), ("cut",)])
        self.assertEqual(self.tale(NEWS, 3), [("put", "bob", 1, 1), ("dropped",)])
        self.assertEqual(self.tale(NEWS, 4), [("put", "ann", 4, 0)])

    def test_rows_are_kept_apart(self):
        self.cellar.put("ann", 1, 1, "posts", "k", "w")
        self.cellar.put("ann", 1, 2, "news", "k", "w")
        self.cellar.cut(NEWS, 1)
        self.assertEqual(self.tale(POSTS, 0), [("put", "ann", 1, 0)])

    def test_standing(self):
        self.cellar.begin("ann", 1)
        self.cellar.begin("bob", 1)
        self.cellar.put("ann", 1, 1, "news", "a", "1", 1)
        self.cellar.put("bob", 1, 1, "news", "b", "2", 2)
        self.cellar.put("ann", 1, 2, "news", "c", None)
        self.cellar.put("ann", 1, 3, "posts", "d", "4")
        lines = self.cellar.written()
        self.assertEqual(standing(lines, NEWS), [(2, "c", None)])
        self.assertEqual(standing(lines, POSTS), [(0, "d", "4")])
        self.cellar.close("bob", 1)
        self.assertEqual(standing(self.cellar.written(), NEWS), [(1, "b", "2"), (2, "c", None)])
        self.cellar.drop("ann", 1)
        self.assertEqual(standing(self.cellar.written(), NEWS), [(1, "b", "2"), (2, "c", None)])
        self.cellar.cut(NEWS, 2)
        self.assertEqual(standing(self.cellar.written(), NEWS), [(2, "c", None)])
        self.cellar.put("ann", 1, 4, "posts", "d", "5")
        self.cellar.draw(POSTS)
        self.assertEqual(standing(self.cellar.written(), POSTS), [(1, "d", "5")])
        self.assertEqual(standing(lines, NEWS), [(2, "c", None)])

    def test_asides(self):
        for number in range(1, 5):
            self.cellar.put("ann", 1, number, "news", "k", "w")
        self.group(turns=1, tries=1, width=9)
        for n in range(3):
            self.take()
        self.cellar.pass_turns(1)
        self.take()
        self.cellar.cut(NEWS, 2)
        lines = self.cellar.written()
        self.assertEqual(asides(lines, "g", NEWS), [0, 1, 2])
        self.assertEqual((asides(lines, "g", POSTS), asides(lines, "h", NEWS)), ([], []))

    def test_asides_are_told_rising(self):
        for number in range(1, 4):
            self.cellar.put("ann", 1, number, "news", "k", "w")
        self.group(turns=9, tries=1, width=9)
        loans = [self.take() for n in range(3)]
        self.cellar.give_back("g", NEWS, loans[2])
        self.assertIsNone(self.cellar.take("g", "tom", NEWS))
        self.cellar.give_back("g", NEWS, loans[0])
        self.assertIsNone(self.cellar.take("g", "tom", NEWS))
        self.assertEqual(asides(self.cellar.written(), "g", NEWS), [0, 2])
        self.assertEqual(self.cellar.aside_of("g", NEWS), [0, 2])

    def test_spots(self):
        for number in range(1, 12):
            self.cellar.put("ann", 1, number, "news", "k", "w")
        self.cellar.cut(NEWS, 3)
        lines = self.cellar.written()
        self.assertEqual([spot_told(lines, "ann", n) for n in range(1, 12)], [(NEWS, n - 1) for n in range(1, 12)])
        self.assertIs(type(spot_told(lines, "ann", 1)), tuple)
        for sender, number in [("ann", 12), ("ann", 0), ("bob", 1), ("zed", 1)]:
            self.assertIsNone(spot_told(lines, sender, number))


class TestLines(unittest.TestCase):
    ASKS = [(tale, (0, 0)), (standing, (0,)), (asides, ("g", 0)), (spot_told, ("ann", 1))]

    def test_of_no_lines(self):
        for lines in [[], [""], ["spoiled"], Cellar(SHELVES).written()]:
            self.assertEqual(tale(lines, 0, 0), [])
            self.assertEqual(standing(lines, 0), [])
            self.assertEqual(asides(lines, "g", 0), [])
            self.assertIsNone(spot_told(lines, "ann", 1))

    def test_of_what_no_line_tells(self):
        driver = Driver(41)
        for n in range(200):
            driver.step()
        lines = driver.cellar.written()
        for row, place in [(0, 999), (9, 0), (10 ** 9, 10 ** 9)]:
            self.assertEqual(tale(lines, row, place), [])
        self.assertEqual(standing(lines, 99), [])
        self.assertEqual(asides(lines, "nogroup", 0), [])
        self.assertEqual(asides(lines, "g", 99), [])
        self.assertIsNone(spot_told(lines, "nobody", 1))
        self.assertIsNone(spot_told(lines, "ann", 10 ** 9))

    def test_broken_lines(self):
        driver = Driver(42)
        for n in range(30):
            driver.step()
        lines = driver.cellar.written()
        for many in range(len(lines) - 1):
            handed = lines[:many] + [lines[many][:-1]] + lines[many + 1:]
            for ask, things in self.ASKS:
                self.assertEqual(refusal(Broken, ask, handed, *things), (many,))

    def test_nothing_handed_in_is_changed(self):
        driver = Driver(43)
        for n in range(60):
            driver.step()
        lines = driver.cellar.written()
        handed = list(lines)
        for ask, things in self.ASKS:
            told = ask(handed, *things)
            self.assertEqual(handed, lines)
            if isinstance(told, list):
                told.append(7)
                self.assertNotEqual(ask(handed, *things), told)

    def test_arguments_by_name(self):
        cellar = Cellar(SHELVES)
        cellar.hail("ann")
        cellar.put("ann", 1, 1, "news", "k", "w")
        lines = cellar.written()
        self.assertEqual(tale(lines=lines, row=NEWS, place=0), [("put", "ann", 1, 0)])
        self.assertEqual(standing(lines=lines, row=NEWS), [(0, "k", "w")])
        self.assertEqual(asides(lines=lines, group="g", row=NEWS), [])
        self.assertEqual(spot_told(lines=lines, sender="ann", number=1), (NEWS, 0))


class Teller:
    """Keeps the tale of each letter by what the calls told, without the lines."""

    def __init__(self, driver):
        self.driver = driver
        self.cellar = driver.cellar
        self.tales = {}
        self.spots = {}
        self.gone = {}
        self.deeds = {}
        self.asides = {}
        self.turns = {}
        self.original = driver.call
        driver.call = self.call

    def add(self, spot, *event):
        self.tales[spot].append(event)
        if event[0] in ("dropped", "away", "cut"):
            self.gone[spot] = True

    def call(self, name, *things):
        now = self.cellar.now()
        pledges = {}
        if name == "close":
            deed = self.cellar.state.deeds.open_of(things[0])
            for group, row, loan in self.cellar.state.deeds.pledges_of(deed) if deed else []:
                for place, kept in self.cellar.state.lending_in(group, row).loans.items():
                    if kept[0] == loan:
                        pledges[(row, place)] = (group, loan)
        outcome = self.original(name, *things)
        if outcome[0] == "ok":
            self.after(name, things, outcome[1], now, pledges)
        return outcome

    def after(self, name, things, told, now, pledges):
        if name == "put" and told not in self.tales:
            sender, number, deed = things[0], things[2], things[6]
            self.tales[told] = [("put", sender, number, deed)]
            self.spots[(sender, number)] = told
            self.deeds.setdefault(deed, []).append(told)
        if name == "found":
            self.turns[things[0]] = things[2]
        if name == "take":
            group, taker, row = things
            for place in self.cellar.aside_of(group, row):
                if place not in self.asides.setdefault((group, row), []):
                    self.asides[(group, row)].append(place)
                    self.add((row, place), "aside", group)
            if told is not None:
                self.add((row, told[0]), "lent", group, taker, told[3], now + self.turns[group])
        if name in ("answer", "give_back"):
            group, row, loan = things
            self.add((row, told), "answered" if name == "answer" else "back", group, loan)
        for spot, (group, loan) in pledges.items():
            self.add(spot, "answered", group, loan)
        for spot in told if name == "close" else []:
            self.add(tuple(spot), "closed")
        for place in told if name in ("draw", "cut") else []:
            self.add((things[0], place), "away" if name == "draw" else "cut")
        if name in ("drop", "hail", "pass_turns"):
            for deed, spots in self.deeds.items():
                if deed and self.cellar.fate_of(deed) == "dropped":
                    for spot in spots:
                        if ("dropped",) not in self.tales[spot]:
                            self.add(spot, "dropped")


class TestLongRuns(unittest.TestCase):
    def test_tales_of_long_runs(self):
        kinds = {}
        for seed in range(50, 62):
            driver = Driver(seed)
            teller = Teller(driver)
            for n in range(400):
                driver.step()
            lines = driver.cellar.written()
            for (row, place), told in teller.tales.items():
                self.assertEqual(tale(lines, row, place), told)
                kinds.update({event[0]: True for event in told})
            for (sender, number), spot in teller.spots.items():
                self.assertEqual(spot_told(lines, sender, number), spot)
            for group in GROUPS:
                for row in range(5):
                    self.assertEqual(asides(lines, group, row), sorted(teller.asides.get((group, row), [])))
            for row in range(5):
                wanted = [place for (at, place) in sorted(teller.tales) if at == row
                          and (row, place) not in teller.gone and self.fate(driver, teller, row, place) != "open"]
                self.assertEqual([letter[0] for letter in standing(lines, row)], wanted)
        self.assertEqual(sorted(kinds), ["answered", "aside", "away", "back", "closed", "cut", "dropped", "lent", "put"])

    def fate(self, driver, teller, row, place):
        deed = teller.tales[(row, place)][0][3]
        return driver.cellar.fate_of(deed) if deed else None

    def test_lines_cut_off(self):
        for seed in range(70, 73):
            driver = Driver(seed)
            for n in range(150):
                driver.step()
            lines = driver.cellar.written()
            for many in range(0, len(lines), 4):
                whole = lines[:acts_of(lines[:many])[1]]
                for cut in (lines[:many], lines[:many] + [lines[many][:-1]]):
                    for row in range(5):
                        self.assertEqual(standing(cut, row), standing(whole, row))
                        self.assertEqual(tale(cut, row, 3), tale(whole, row, 3))
                        self.assertEqual(asides(cut, "g", row), asides(whole, "g", row))
                    self.assertEqual(spot_told(cut, "ann", 5), spot_told(whole, "ann", 5))

    def test_as_the_cellar_itself_answers(self):
        for seed in range(80, 84):
            driver = Driver(seed)
            for n in range(150):
                driver.step()
            lines = driver.cellar.written()
            for many in range(1, len(lines), 3):
                cellar = come_up(lines[:many])[0]
                for row in range(5):
                    first = cellar.state.rows[row].first
                    fates = {0: "closed"}
                    wanted = []
                    for letter in cellar.read(row, first, 1000, False):
                        deed = cellar.state.rows[row].at(letter[0])[2]
                        if fates.setdefault(deed, deed and cellar.fate_of(deed)) != "open":
                            wanted.append(letter)
                    self.assertEqual(standing(lines[:many], row), wanted)
                for group in GROUPS:
                    for row in ROWS[GROUPS[group]]:
                        told = outcome_of(cellar, "aside_of", (group, row))
                        self.assertEqual(asides(lines[:many], group, row), told[1] if told[0] == "ok" else [])
                for sender in SENDERS:
                    last = cellar.state.senders.last_of(sender)
                    for number in range(max(1, last - 7), last + 1):
                        self.assertEqual(spot_told(lines[:many], sender, number),
                                         cellar.state.senders.spot_of(sender, number))
