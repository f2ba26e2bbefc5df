"""Serving (point 80)."""

import unittest

from helper import refusal, shown
from lettercell.cellar import Cellar
from lettercell.errors import BadWord, NoSuch
from lettercell.serve import serve


class Case(unittest.TestCase):
    def cellar(self, rows, letters, turns=5, tries=3, width=1):
        """A cellar with so many letters in each row of a shelf, and a group with one taker."""
        cellar = Cellar([("a", rows, "stream")])
        cellar.hail("ann")
        number, keys = 1, {}
        for k in range(500):
            keys.setdefault(cellar.state.shelves.row_for("a", f"k{k}"), f"k{k}")
        for row in range(rows):
            for n in range(letters[row]):
                cellar.put("ann", 1, number, "a", keys[row], f"{row}.{n}")
                number += 1
        cellar.found("g", "a", turns, tries, width)
        cellar.enter("g", "tom")
        self.keys = keys
        return cellar


class TestRounds(Case):
    def test_round_by_round(self):
        cellar = self.cellar(3, [2, 0, 3])
        seen = []

        def work(row, place, key, word):
            seen.append((row, place, key, word))
            return True

        told = serve(cellar, "g", "tom", work)
        self.assertEqual(told, [(0, 0, "answered"), (2, 0, "answered"), (0, 1, "answered"), (2, 1, "answered"),
                                (2, 2, "answered")])
        self.assertEqual(seen, [(row, place, self.keys[row], f"{row}.{place}") for row, place, what in told])
        self.assertEqual([cellar.mark_of("g", row) for row in range(3)], [2, 0, 3])
        self.assertEqual(serve(cellar, "g", "tom", work), [])
        self.assertEqual(len(seen), 5)

    def test_only_the_takers_rows(self):
        cellar = self.cellar(3, [2, 2, 2])
        cellar.enter("g", "ann")
        self.assertEqual([cellar.owner_of("g", row) for row in range(3)], ["tom", "tom", "ann"])
        self.assertEqual(serve(cellar, "g", "ann", lambda row, place, key, word: True), [(2, 0, "answered"), (2, 1, "answered")])

    def test_a_taker_without_rows(self):
        cellar = self.cellar(1, [2])
        cellar.enter("g", "zed")
        self.assertEqual(serve(cellar, "g", "zed", lambda row, place, key, word: True), [])

    def test_given_back(self):
        cellar = self.cellar(1, [2], tries=2)
        told = serve(cellar, "g", "tom", lambda row, place, key, word: False)
        self.assertEqual(told, [(0, 0, "back"), (0, 0, "back"), (0, 1, "back"), (0, 1, "back")])
        self.assertEqual(cellar.aside_of("g", 0), [0, 1])

    def test_kept(self):
        cellar = self.cellar(2, [3, 1], width=2)
        told = serve(cellar, "g", "tom", lambda row, place, key, word: None)
        self.assertEqual(told, [(0, 0, "kept"), (1, 0, "kept"), (0, 1, "kept")])
        self.assertEqual(cellar.answer("g", 0, 2), 1)

    def test_answers_of_every_kind(self):
        cellar = self.cellar(1, [3], width=2)
        verdicts = [None, False, True, True]
        told = serve(cellar, "g", "tom", lambda row, place, key, word: verdicts.pop(0))
        self.assertEqual(told, [(0, 0, "kept"), (0, 1, "back"), (0, 1, "answered"), (0, 2, "answered")])
        self.assertEqual(verdicts, [])

    def test_stones_are_handed_to_the_work(self):
        cellar = Cellar([("a", 1, "stream")])
        cellar.hail("ann")
        cellar.put("ann", 1, 1, "a", "k")
        cellar.found("g", "a")
        cellar.enter("g", "tom")
        seen = []
        serve(cellar, "g", "tom", lambda *letter: seen.append(letter))
        self.assertEqual(seen, [(0, 0, "k", None)])

    def test_most(self):
        for most in range(1, 8):
            cellar = self.cellar(2, [3, 3])
            told = serve(cellar, "g", "tom", lambda row, place, key, word: True, most)
            every = [(0, 0, "answered"), (1, 0, "answered"), (0, 1, "answered"), (1, 1, "answered"), (0, 2, "answered"),
                     (1, 2, "answered")]
            self.assertEqual(told, every[:most])
            self.assertEqual([cellar.mark_of("g", row) for row in (0, 1)],
                             [sum(row == part[0] for part in every[:most]) for row in (0, 1)])

    def test_twenty_at_most_if_nothing_is_said(self):
        cellar = self.cellar(1, [30])
        self.assertEqual(len(serve(cellar, "g", "tom", lambda row, place, key, word: True)), 20)
        self.assertEqual(len(serve(cellar=cellar, group="g", taker="tom", work=lambda *letter: True, most=1000)), 10)


class TestWorkThatCalls(Case):
    def test_late(self):
        for verdict in (True, False):
            cellar = self.cellar(1, [1], turns=3, tries=2)

            def work(row, place, key, word):
                cellar.pass_turns(3)
                return verdict

            self.assertEqual(serve(cellar, "g", "tom", work), [(0, 0, "late"), (0, 0, "late")])
            self.assertEqual(cellar.aside_of("g", 0), [0])

    def test_kept_is_not_late(self):
        cellar = self.cellar(1, [1], turns=3, tries=2)

        def work(row, place, key, word):
            cellar.pass_turns(3)

        self.assertEqual(serve(cellar, "g", "tom", work), [(0, 0, "kept"), (0, 0, "kept")])

    def test_answered_by_the_work_itself(self):
        cellar = self.cellar(1, [2])
        loans = [1, 2]

        def work(row, place, key, word):
            cellar.answer("g", row, loans.pop(0))
            return True

        self.assertEqual(serve(cellar, "g", "tom", work), [(0, 0, "late"), (0, 1, "late")])
        self.assertEqual(cellar.mark_of("g", 0), 2)

    def test_letters_put_by_the_work_are_served(self):
        cellar = self.cellar(2, [1, 0])
        cellar.hail("bob")

        def work(row, place, key, word):
            if row == 0:
                cellar.put("bob", 1, 1, "a", self.keys[1], "new")
            return True

        self.assertEqual(serve(cellar, "g", "tom", work), [(0, 0, "answered"), (1, 0, "answered")])

    def test_each_letter_is_done_ahead_of_the_next_take(self):
        cellar = self.cellar(2, [2, 2])
        marks = []

        def work(row, place, key, word):
            marks.append([cellar.mark_of("g", 0), cellar.mark_of("g", 1)])
            return True

        serve(cellar, "g", "tom", work)
        self.assertEqual(marks, [[0, 0], [1, 0], [1, 1], [2, 1]])

    def test_a_row_that_is_not_the_takers_any_more_is_passed_over(self):
        cellar = self.cellar(2, [2, 2])

        def work(row, place, key, word):
            if cellar.takers_of("g") == ["tom"]:
                cellar.enter("g", "ann")
            return True

        told = serve(cellar, "g", "tom", work)
        self.assertEqual([cellar.owner_of("g", row) for row in (0, 1)], ["tom", "ann"])
        self.assertEqual(told, [(0, 0, "answered"), (0, 1, "answered")])
        self.assertEqual(cellar.mark_of("g", 1), 0)

    def test_rows_that_come_within_a_round_wait_for_the_next(self):
        cellar = self.cellar(2, [2, 1])
        cellar.enter("g", "ann")

        def work(row, place, key, word):
            if "ann" in cellar.takers_of("g"):
                cellar.leave("g", "ann")
            return True

        self.assertEqual(serve(cellar, "g", "tom", work), [(0, 0, "answered"), (0, 1, "answered"), (1, 0, "answered")])

    def test_the_taker_leaves_in_the_midst(self):
        cellar = self.cellar(2, [2, 2])

        def work(row, place, key, word):
            cellar.leave("g", "tom")
            return True

        self.assertEqual(serve(cellar, "g", "tom", work), [(0, 0, "late")])

    def test_a_work_that_fails_leaves_what_was_done(self):
        cellar = self.cellar(1, [2])

        def work(row, place, key, word):
            if place == 1:
                raise RuntimeError("no more")
            return True

        with self.assertRaises(RuntimeError):
            serve(cellar, "g", "tom", work)
        self.assertEqual(cellar.mark_of("g", 0), 1)
        self.assertEqual(cellar.answer("g", 0, 2), 1)


class TestRefusals(Case):
    def test_forms_and_names(self):
        cellar = self.cellar(1, [1])
        before = shown(cellar)

        def work(row, place, key, word):
            self.fail("nothing is to be taken")

        for name in ["", "A", "thirteensigns", None, True, 1, ["g"]]:
            self.assertEqual(refusal(BadWord, serve, cellar, name, "nobody", work), ())
            self.assertEqual(refusal(BadWord, serve, cellar, "nogroup", name, work), ())
            self.assertEqual(refusal(BadWord, serve, cellar, "g", name, work), ())
        for most in [0, 1001, -1, True, None, "1", [1], 1.0]:
            self.assertEqual(refusal(BadWord, serve, cellar, "nogroup", "nobody", work, most), ())
            self.assertEqual(refusal(BadWord, serve, cellar, "g", "tom", work, most), ())
        self.assertEqual(refusal(NoSuch, serve, cellar, "nogroup", "nobody", work), ("nogroup",))
        self.assertEqual(refusal(NoSuch, serve, cellar, "nogroup", "tom", work), ("nogroup",))
        self.assertEqual(refusal(NoSuch, serve, cellar, "g", "nobody", work), ("nobody",))
        self.assertEqual(shown(cellar), before)
