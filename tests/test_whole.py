"""The promises of point 7, over long runs of mixed calls with falls in the midst.

A watcher follows the written lines alone, keeps its own account of what they tell, and holds each act to the promises.
"""

import copy
import itertools
import unittest

from helper import GROUPS, ROWS, SHELVES, Driver, shown
from lettercell.cellar import Cellar, come_up
from lettercell.drawing import table_of
from lettercell.lines import parted
from lettercell.serve import serve
from lettercell.tables import Table

MANY_ROWS = 5
TABLE_ROWS = ROWS["posts"] + ROWS["logs"]


class Watcher:
    def __init__(self, case):
        self.case = case
        self.lines = 0
        self.turn = 0
        self.ends = [0] * MANY_ROWS
        self.firsts = [0] * MANY_ROWS
        self.ever = {}
        self.gone = {}
        self.deeds = {}
        self.sent = {}
        self.groups = {}
        self.tables = {}
        self.fronts_before = [0] * MANY_ROWS
        self.floors_before = [0] * MANY_ROWS
        self.marks_before = {}

    def __deepcopy__(self, memo):
        other = Watcher(self.case)
        for name, value in vars(self).items():
            if name != "case":
                setattr(other, name, copy.deepcopy(value))
        return other

    def hold(self, good, *what):
        self.case.assertTrue(good, what)

    # What is reckoned from the account.

    def standing(self, row):
        return [place for place in range(self.ends[row]) if (row, place) in self.ever and (row, place) not in self.gone]

    def front(self, row):
        return self.fronts()[row]

    def fronts(self):
        told = list(self.ends)
        changed = True
        while changed:
            changed = False
            for fate, spots, sender, end, pledges in self.deeds.values():
                beneath = [spot for spot in spots if spot[1] < told[spot[0]]]
                torn = fate == "open" or fate == "closed" and len(beneath) < len(spots)
                if torn and beneath:
                    told[beneath[0][0]] = beneath[0][1]
                    changed = True
        return told

    def mark(self, group, row, front):
        kept = self.groups[group]
        for place in self.standing(row):
            if kept["starts"][row] <= place < front and (row, place) not in kept["fates"]:
                return place
        return max(front, kept["starts"][row])

    def marks_of(self, row):
        front = self.front(row)
        return [self.mark(group, row, front) for group in self.groups if row in self.groups[group]["starts"]]

    def letters_beneath(self, row, place):
        told = []
        for (at, spot), (key, word, deed) in sorted(self.ever.items()):
            if at == row and spot < place and (deed == 0 or self.deeds[deed][0] != "dropped"):
                told.append((spot, key, word))
        return told

    # What an act tells.

    def see(self, lines):
        """The lines of one act, all of them new."""
        bodies = [parted(line[19:]) for line in lines]
        self.case.assertEqual([line[18] for line in lines], ["+"] * (len(lines) - 1) + ["."])
        for body in bodies:
            getattr(self, "see_" + body[0])(*body[1:])
        if bodies[0][0] in ("enter", "leave"):
            self.see_dealt(bodies[0][1], bodies[1:])
        self.lines += len(lines)

    def see_shelves(self, *texts):
        self.hold(self.lines == 0)

    def see_hail(self, sender, life):
        self.hold(not [deed for deed, kept in self.deeds.items() if kept[0] == "open" and kept[2] == sender])

    def see_put(self, sender, number, deed, row, place, key, word):
        number, deed, row, place = int(number), int(deed), int(row), int(place)
        self.hold((sender, number) not in self.sent, "once", sender, number)
        self.hold(number == 1 or (sender, number - 1) in self.sent)
        self.hold(place == self.ends[row] and (row, place) not in self.ever, "place", row, place)
        self.sent[(sender, number)] = (row, place)
        self.ever[(row, place)] = (key, None if word == "-" else word[1:], deed)
        self.ends[row] += 1
        if deed:
            self.hold(self.deeds[deed][0] == "open" and self.deeds[deed][2] == sender)
            self.deeds[deed][1].append((row, place))

    def see_begin(self, deed, sender, end):
        self.hold(int(deed) == len(self.deeds) + 1)
        self.hold(not [kept for kept in self.deeds.values() if kept[0] == "open" and kept[2] == sender])
        self.deeds[int(deed)] = ["open", [], sender, int(end), []]

    def see_pledge(self, deed, group, row, loan):
        self.deeds[int(deed)][4].append((group, int(row), int(loan)))

    def see_close(self, deed):
        kept = self.deeds[int(deed)]
        self.hold(kept[0] == "open" and self.turn < kept[3])
        for group, row, loan in kept[4]:
            ended = [one["ended"] for lent in self.groups[group]["lent"].values() for one in lent
                     if one["row"] == row and one["loan"] == loan]
            self.hold(ended == ["answered"], "pledged", group, row, loan)
        kept[0] = "closed"

    def see_drop(self, deed):
        kept = self.deeds[int(deed)]
        self.hold(kept[0] == "open")
        kept[0] = "dropped"
        for spot in kept[1]:
            self.hold(spot not in self.gone)
            self.gone[spot] = "dropped"

    def see_found(self, group, shelf, turns, tries, width):
        # Only here a floor may go back.
        for row in ROWS[shelf]:
            self.floors_before[row] = 0
        self.groups[group] = {"starts": {row: self.firsts[row] for row in ROWS[shelf]}, "turns": int(turns),
                              "tries": int(tries), "width": int(width), "owners": {row: None for row in ROWS[shelf]},
                              "takers": [], "fates": {}, "lent": {}, "loans": {row: 0 for row in ROWS[shelf]}}

    def see_enter(self, group, taker):
        kept = self.groups[group]
        kept["takers"].append(taker)
        kept["had"] = dict(kept["owners"])

    def see_leave(self, group, taker):
        kept = self.groups[group]
        kept["takers"].remove(taker)
        kept["had"] = dict(kept["owners"])
        for lent in kept["lent"].values():
            for one in lent:
                if one["taker"] == taker and one["ended"] in (None, "called"):
                    one["ended"] = "left"

    def see_deal(self, group, row, taker):
        kept = self.groups[group]
        self.hold(kept["owners"][int(row)] != (taker or None))
        kept["owners"][int(row)] = taker or None
        for lent in kept["lent"].values():
            for one in lent:
                if one["row"] == int(row) and one["ended"] is None:
                    one["ended"] = "called"

    def see_dealt(self, group, deals):
        kept = self.groups[group]
        takers, owners, had = kept["takers"], kept["owners"], kept["had"]
        if not takers:
            self.hold(set(owners.values()) == {None})
            return
        fewest = len(owners)
        for some in itertools.product(takers, repeat=len(owners)):
            counts = [some.count(taker) for taker in takers]
            if max(counts) - min(counts) <= 1:
                fewest = min(fewest, sum(had[row] != taker for row, taker in zip(owners, some)))
        counts = [list(owners.values()).count(taker) for taker in takers]
        self.hold(max(counts) - min(counts) <= 1 and sum(counts) == len(owners), "even", owners)
        self.hold(len(deals) == fewest == sum(had[row] != owners[row] for row in owners), "moves", deals)

    def see_aside(self, group, row, place):
        kept, spot = self.groups[group], (int(row), int(place))
        self.hold(spot not in kept["fates"] and spot not in self.gone, "aside", spot)
        self.hold(len(kept["lent"][spot]) == kept["tries"], "aside behind so many lendings", spot)
        self.hold(kept["lent"][spot][-1]["ended"] in ("back", "left") or kept["lent"][spot][-1]["end"] <= self.turn)
        kept["fates"][spot] = "aside"

    def see_lend(self, group, row, place, taker, loan, end):
        kept, spot = self.groups[group], (int(row), int(place))
        front = self.front(spot[0])
        self.hold(spot not in kept["fates"] and spot in self.ever and spot not in self.gone, "lent", spot)
        self.hold(kept["starts"][spot[0]] <= spot[1] < front, "lent beneath the front", spot)
        self.hold(kept["owners"][spot[0]] == taker and taker in kept["takers"], "the one taker", taker)
        self.hold(int(end) == self.turn + kept["turns"])
        kept["loans"][spot[0]] += 1
        self.hold(int(loan) == kept["loans"][spot[0]])
        lent = kept["lent"].setdefault(spot, [])
        if lent:
            last = lent[-1]
            self.hold(last["ended"] in ("back", "left") or last["end"] <= self.turn, "one holder", spot)
        else:
            for other in kept["lent"]:
                self.hold(other[0] != spot[0] or other[1] <= spot[1], "rising", spot)
            for other in self.standing(spot[0]):
                if kept["starts"][spot[0]] <= other < spot[1]:
                    self.hold((spot[0], other) in kept["lent"], "passed over", other)
        self.hold(len(lent) < kept["tries"], "tries", spot)
        on = [one for some in kept["lent"].values() for one in some if one["row"] == spot[0]
              and one["ended"] in (None, "called") and one["end"] > self.turn]
        self.hold(len(on) < kept["width"], "width", spot)
        lent.append({"row": spot[0], "loan": int(loan), "taker": taker, "end": int(end), "ended": None})

    def end_loan(self, group, row, place, loan, ended):
        last = self.groups[group]["lent"][(int(row), int(place))][-1]
        self.hold(last["loan"] == int(loan) and last["ended"] is None and self.turn < last["end"], ended, row, place)
        last["ended"] = ended

    def see_answer(self, group, row, place, loan):
        self.end_loan(group, row, place, loan, "answered")
        self.hold((int(row), int(place)) not in self.groups[group]["fates"], "answered once")
        self.groups[group]["fates"][(int(row), int(place))] = "answered"

    def see_back(self, group, row, place, loan):
        self.end_loan(group, row, place, loan, "back")

    def see_turn(self, turn):
        self.hold(int(turn) > self.turn)
        self.turn = int(turn)

    def see_attach(self, reader, row, place):
        self.tables[reader] = [int(row), Table(), {}]

    def see_advance(self, reader, place):
        self.hold(reader in self.tables)

    def see_detach(self, reader):
        self.tables.pop(reader)

    def see_away(self, row, place):
        row, place = int(row), int(place)
        self.hold(row in TABLE_ROWS and place in self.standing(row))
        self.hold(all(place < mark for mark in self.marks_of(row) + [self.front(row)]), "needed", row, place)
        self.gone[(row, place)] = "away"

    def see_drawn(self, row, floor):
        self.hold(int(floor) == min(self.marks_of(int(row)) + [self.front(int(row))]))

    def see_cut(self, row, place):
        row, place = int(row), int(place)
        self.hold(row not in TABLE_ROWS and place > self.firsts[row])
        self.hold(all(place <= mark for mark in self.marks_of(row) + [self.front(row)]), "needed", row, place)
        for spot in self.standing(row):
            if spot < place:
                self.gone[(row, spot)] = "cut"
        self.firsts[row] = place

    # What holds at any moment.

    def look_at(self, cellar):
        fronts = self.fronts()
        self.case.assertEqual([cellar.front_of(row) for row in range(MANY_ROWS)], fronts)
        for row in range(MANY_ROWS):
            self.hold(fronts[row] >= self.fronts_before[row], "front", row)
            self.look_at_row(cellar, row, fronts[row])
            floor = cellar.floor_of(row)
            self.hold(floor == min(self.marks_of(row) + [fronts[row]]) and floor >= self.floors_before[row], "floor", row)
            self.floors_before[row] = floor
        self.fronts_before = fronts
        self.look_at_deeds(cellar, fronts)
        for group, kept in self.groups.items():
            for row in kept["starts"]:
                mark = cellar.mark_of(group, row)
                self.hold(mark == self.mark(group, row, fronts[row]), "mark", group, row)
                self.hold(mark >= self.marks_before.get((group, row), 0), "mark", group, row)
                self.marks_before[(group, row)] = mark
        for reader, (row, table, lasts) in self.tables.items():
            if row in TABLE_ROWS and table.place >= cellar.drawn_of(row):
                self.case.assertEqual(table.shown(), table_of(self.letters_beneath(row, table.place)))
            for key in "abcdef":
                self.hold(table.last_at(key) >= lasts.get(key, -1), "an older letter", key)
                lasts[key] = table.last_at(key)

    def look_at_row(self, cellar, row, front):
        whole = cellar.read(row, self.firsts[row], 1000)
        self.case.assertEqual([letter[0] for letter in whole], [p for p in self.standing(row) if p < front])
        every = cellar.read(row, self.firsts[row], 1000, False)
        self.case.assertEqual([letter[0] for letter in every], self.standing(row))
        for place, key, word in every:
            self.hold(self.ever[(row, place)][:2] == (key, word))
        if row in TABLE_ROWS:
            self.case.assertEqual(table_of(whole), table_of(self.letters_beneath(row, front)))

    def look_at_deeds(self, cellar, fronts):
        for number, kept in self.deeds.items():
            self.hold(cellar.fate_of(number) == kept[0])
            read = [spot for spot in kept[1] if spot[1] < fronts[spot[0]] and spot not in self.gone]
            lost = [spot for spot in kept[1] if self.gone.get(spot) in ("away", "cut")]
            if kept[0] == "closed":
                self.hold(not read or len(read) + len(lost) == len(kept[1]), "deed", number)
            else:
                self.hold(not read and not lost, "deed", number)


class Run:
    """A driver whose every act the watcher sees, with falls."""

    def __init__(self, case, seed):
        self.case = case
        self.driver = Driver(seed)
        self.watcher = Watcher(case)
        self.original = self.driver.call
        self.driver.call = self.call
        self.watcher.see(self.driver.cellar.written())
        self.kept = {1: copy.deepcopy(self.watcher)}
        self.falls = 0

    def call(self, name, *things):
        known = self.watcher.sent.get((things[0], things[2])) if name == "put" else None
        outcome = self.original(name, *things)
        self.seen(self.driver.cellar)
        if name == "put" and known is not None and outcome[0] == "ok":
            self.case.assertEqual(outcome[1], known)
        if name == "look" and outcome[0] == "ok":
            self.watcher.tables[things[0]][1].take(*outcome[1])
            self.kept[self.watcher.lines] = copy.deepcopy(self.watcher)
        return outcome

    def seen(self, cellar):
        lines = cellar.written()[self.watcher.lines:]
        if lines:
            self.watcher.see(lines)
            self.watcher.look_at(cellar)
            self.kept[self.watcher.lines] = copy.deepcopy(self.watcher)
            if len(self.kept) > 25:
                self.kept.pop(min(self.kept))

    def fall(self):
        """The cellar's lines are cut off somewhere, and another one comes up from them."""
        numbers = self.driver.numbers
        lines = self.driver.cellar.written()
        many = max(min(self.kept), len(lines) - numbers.below(15))
        left = lines[:many]
        if many < len(lines) and numbers.chance(1, 2):
            left.append(lines[many][:numbers.below(len(lines[many]))])
        cellar, many_left = come_up(left)
        whole = max(lines_then for lines_then in self.kept if lines_then <= many)
        self.case.assertEqual(len(cellar.written()), whole)
        self.case.assertEqual(many_left, len(left) - whole)
        self.driver.cellar = cellar
        self.watcher = copy.deepcopy(self.kept[whole])
        self.kept = {lines_then: kept for lines_then, kept in self.kept.items() if lines_then <= whole}
        self.watcher.look_at(cellar)
        self.driver.looked.clear()
        self.falls += 1


class TestLongRuns(unittest.TestCase):
    def test_mixed_calls_with_falls(self):
        falls = 0
        for seed in range(100, 150):
            run = Run(self, seed)
            for n in range(300):
                run.driver.step()
                if run.driver.numbers.chance(1, 40):
                    run.fall()
            falls += run.falls
            self.calm(run)
        self.assertGreater(falls, 200)

    def test_mixed_calls_without_falls(self):
        for seed in range(200, 206):
            run = Run(self, seed)
            for n in range(700):
                run.driver.step()
            self.calm(run)

    def calm(self, run):
        """Where time passes and all takers but one leave, this one comes to an end with everything."""
        cellar = run.driver.cellar
        cellar.pass_turns(1000)
        run.seen(cellar)
        for group in list(run.watcher.groups):
            takers = cellar.takers_of(group)
            if not takers:
                cellar.enter(group, "tom")
                takers = ["tom"]
            for taker in takers[1:]:
                cellar.leave(group, taker)
            self.served_out(run, cellar, group, takers[0])
            for row in ROWS[GROUPS[group]]:
                end = run.watcher.ends[row]
                self.assertEqual((cellar.mark_of(group, row), cellar.front_of(row)), (end, end))
                for place in run.watcher.standing(row):
                    if place >= run.watcher.groups[group]["starts"][row]:
                        self.assertIn((row, place), run.watcher.groups[group]["fates"])

    def served_out(self, run, cellar, group, taker):
        for row in ROWS[GROUPS[group]]:
            taken = cellar.take(group, taker, row)
            while taken is not None:
                cellar.answer(group, row, taken[3])
                taken = cellar.take(group, taker, row)
        self.seen_in_parts(run, cellar)

    def seen_in_parts(self, run, cellar):
        """Acts that the watcher has not seen yet, one by one."""
        lines = cellar.written()[run.watcher.lines:]
        act = []
        for line in lines:
            act.append(line)
            if line[18] == ".":
                run.watcher.see(act)
                act = []
        run.watcher.look_at(cellar)


class TestCalm(unittest.TestCase):
    def test_by_serving(self):
        for seed in range(300, 310):
            driver = Driver(seed)
            for n in range(250):
                driver.step()
            cellar = driver.cellar
            cellar.pass_turns(1000)
            for group, shelf in GROUPS.items():
                if group not in cellar.state.groups:
                    continue
                for taker in cellar.takers_of(group):
                    cellar.leave(group, taker)
                cellar.enter(group, "last")
                while serve(cellar, group, "last", lambda row, place, key, word: True, 1000):
                    pass
                for row in ROWS[shelf]:
                    end = cellar.state.rows[row].end
                    self.assertEqual((cellar.mark_of(group, row), cellar.front_of(row)), (end, end))


class TestByHand(unittest.TestCase):
    def test_a_deed_is_seen_whole_or_not_at_all(self):
        cellar = Cellar([("a", 1, "stream"), ("b", 1, "stream")])
        for name in ("ann", "bob"):
            cellar.hail(name)
            cellar.begin(name, 1)
        cellar.put("bob", 1, 1, "b", "k", "open", 2)
        cellar.put("ann", 1, 1, "a", "k", "one", 1)
        cellar.put("ann", 1, 2, "b", "k", "two", 1)
        cellar.close("ann", 1)
        # The closed deed's second letter stands behind the open one's, so its first one is not seen either.
        self.assertEqual((cellar.read(0, 0), cellar.read(1, 0)), ([], []))
        self.assertEqual((cellar.front_of(0), cellar.front_of(1)), (0, 0))
        cellar.drop("bob", 1)
        self.assertEqual((cellar.read(0, 0), cellar.read(1, 0)), ([(0, "k", "one")], [(1, "k", "two")]))

    def test_two_cellars_share_nothing(self):
        one, other = Driver(401), Cellar(SHELVES)
        for n in range(100):
            one.step()
        self.assertEqual(shown(other), shown(Cellar(SHELVES)))

    def test_the_same_calls_make_the_same_lines(self):
        runs = []
        for n in range(2):
            driver = Driver(402)
            for k in range(200):
                driver.step()
            runs.append((driver.cellar.written(), driver.log))
        self.assertEqual(runs[0], runs[1])
