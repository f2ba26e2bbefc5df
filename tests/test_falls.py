"""A cellar that comes up from lines cut off anywhere (points 7, Falls, and 89)."""

import copy
import unittest

from helper import Driver, answers_of, outcome_of, refusal, shown
from lettercell.book import acts_of
from lettercell.cellar import Cellar, come_up
from lettercell.errors import Broken
from lettercell.lines import line_of


class Run:
    """A run of calls, with what the cellar stood like and answered behind each act."""

    def __init__(self, seed, steps):
        driver = Driver(seed)
        self.calls = []
        # By how many lines there were then.
        self.states = {1: shown(driver.cellar)}
        self.answers = {1: answers_of(driver.cellar)}
        # By how many lines there were: how many calls were done then.
        self.done = {1: 0}
        original = driver.call

        def call(name, *things):
            outcome = original(name, *things)
            self.calls.append((name, things, copy.deepcopy(outcome)))
            many = len(driver.cellar.written())
            if many not in self.states:
                self.states[many] = shown(driver.cellar)
                self.answers[many] = answers_of(driver.cellar)
                self.done[many] = len(self.calls)
            return outcome

        driver.call = call
        for n in range(steps):
            driver.step()
        self.lines = driver.cellar.written()
        self.cellar = driver.cellar

    def whole(self, many):
        """How many lines the last act has all of whose lines are among the first so many."""
        return max(lines for lines in self.states if lines <= many)


class TestFalls(unittest.TestCase):
    @classmethod
    def setUpClass(cls):
        cls.runs = [Run(seed, 140) for seed in (21, 22, 23)]

    def stands(self, run, cellar, many):
        self.assertEqual(shown(cellar), run.states[many])
        self.assertEqual(cellar.written(), run.lines[:many])

    def test_cut_between_two_lines(self):
        for run in self.runs:
            for many in range(1, len(run.lines) + 1):
                cellar, left = come_up(run.lines[:many])
                kept = run.whole(many)
                self.assertEqual(left, many - kept)
                self.stands(run, cellar, kept)
                self.assertEqual(answers_of(cellar), run.answers[kept])

    def test_cut_within_a_line(self):
        for run in self.runs:
            for many in range(1, len(run.lines)):
                line = run.lines[many]
                for signs in {0, 1, 5, 6, 17, 18, 19, len(line) // 2, len(line) - 1}:
                    cellar, left = come_up(run.lines[:many] + [line[:signs]])
                    kept = run.whole(many)
                    self.assertEqual(left, many + 1 - kept)
                    self.stands(run, cellar, kept)

    def test_cut_at_every_sign_of_every_line(self):
        run = Run(24, 70)
        for many in range(1, len(run.lines)):
            for signs in range(len(run.lines[many])):
                cellar, left = come_up(run.lines[:many] + [run.lines[many][:signs]])
                self.assertEqual(len(cellar.written()) + left, many + 1)
                self.stands(run, cellar, run.whole(many))

    def test_a_last_line_that_is_spoiled_counts_as_not_written(self):
        for run in self.runs:
            for many in range(1, len(run.lines), 5):
                line = run.lines[many]
                for spoiled in [line + " ", "x" + line[1:], line[:-1] + "|", line[1:], "", line_of(many + 1, line[18:])]:
                    cellar, left = come_up(run.lines[:many] + [spoiled])
                    self.stands(run, cellar, run.whole(many))

    def test_it_goes_on_with_the_same_answers_and_lines(self):
        for run in self.runs:
            for many in sorted(run.done)[::3]:
                cellar = come_up(run.lines[:many] + ["00"])[0]
                for name, things, outcome in run.calls[run.done[many]:]:
                    self.assertEqual(outcome_of(cellar, name, things), outcome)
                self.assertEqual(cellar.written(), run.lines)
                self.assertEqual(shown(cellar), shown(run.cellar))

    def test_up_and_up_again(self):
        run = self.runs[1]
        cellar = Cellar([("posts", 2, "table"), ("news", 2, "stream"), ("logs", 1, "table")])
        for name, things, outcome in run.calls:
            self.assertEqual(outcome_of(cellar, name, things), outcome)
            cellar, left = come_up(cellar.written())
            self.assertEqual(left, 0)
        self.assertEqual(shown(cellar), shown(run.cellar))


class TestComeUp(unittest.TestCase):
    def lines(self):
        driver = Driver(31)
        for n in range(60):
            driver.step()
        return driver.cellar.written()

    def test_all_lines(self):
        lines = self.lines()
        told = come_up(lines)
        self.assertIs(type(told), tuple)
        self.assertIsInstance(told[0], Cellar)
        self.assertEqual(told[1], 0)

    def test_no_whole_first_act(self):
        first = Cellar([("a", 1, "table")]).written()[0]
        for lines in [[], [""], ["x"], [first + "x"], [line_of(0, "+shelves;a;1;table")], [line_of(1, ".shelves;a;1;table")]]:
            self.assertEqual(refusal(Broken, come_up, lines), (0,))
        for signs in range(len(first)):
            self.assertEqual(refusal(Broken, come_up, [first[:signs]]), (0,))

    def test_broken_lines_amid(self):
        lines = self.lines()
        for many in range(len(lines) - 1):
            for spoiled in [lines[many][:-1], lines[many] + "x", "", line_of(many, "x"), line_of(many + 1, lines[many][18:])]:
                handed = lines[:many] + [spoiled] + lines[many + 1:]
                self.assertEqual(refusal(Broken, come_up, handed), (many,))
            if many < len(lines) - 2:
                self.assertEqual(refusal(Broken, come_up, lines[:many] + lines[many + 1:]), (many,))
            self.assertEqual(refusal(Broken, come_up, lines[:many + 1] + lines[many:]), (many + 1,))

    def test_the_list_handed_in_is_neither_kept_nor_changed(self):
        lines = self.lines()
        handed = list(lines)
        cellar = come_up(handed)[0]
        cellar.hail("zed")
        self.assertEqual(handed, lines)
        handed.clear()
        self.assertEqual(cellar.written()[:-1], lines)

    def test_two_that_come_up_share_nothing(self):
        lines = self.lines()
        one, other = come_up(lines)[0], come_up(lines)[0]
        one.hail("zed")
        one.pass_turns(5)
        self.assertEqual(shown(other), shown(come_up(lines)[0]))

    def test_acts_of_several_lines_are_done_whole_or_not_at_all(self):
        cellar = Cellar([("a", 3, "table")])
        cellar.found("g", "a")
        cellar.enter("g", "tom")
        lines = cellar.written()
        self.assertEqual([len(act) for act in acts_of(lines)[0]], [1, 1, 4])
        for many in range(2, 6):
            up, left = come_up(lines[:many])
            self.assertEqual((up.takers_of("g"), up.owner_of("g", 0), left), ([], None, many - 2))
        self.assertEqual(come_up(lines)[0].takers_of("g"), ["tom"])
