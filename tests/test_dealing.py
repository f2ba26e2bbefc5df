import itertools
import unittest

from helper import Numbers, refusal
from lettercell.dealing import Dealing, dealt, moved, paper_of, shares
from lettercell.errors import Doubled, NoSuch


def counts(now, takers):
    return [sum(owner == taker for owner in now.values()) for taker in takers]


def is_even(now, takers):
    many = counts(now, takers)
    return max(many) - min(many) <= 1 and all(owner in takers for owner in now.values())


def fewest_moves(rows, takers, had):
    """Found by going through every dealing in which the takers' numbers of rows differ by one at most."""
    fewest = len(rows)
    for owners in itertools.product(takers, repeat=len(rows)):
        now = dict(zip(rows, owners))
        if is_even(now, takers):
            fewest = min(fewest, sum(had.get(row) != now[row] for row in rows))
    return fewest


def small_cases():
    for many in range(5):
        rows = [2 * row + 1 for row in range(many)]
        for takers in [["b"], ["c", "a"], ["a", "0", "b"], ["b", "a", "ab", "a0"]]:
            for owners in itertools.product(takers + [None, "gone"], repeat=many):
                yield rows, takers, dict(zip(rows, owners))


class TestShares(unittest.TestCase):
    def test_without_a_rest(self):
        self.assertEqual(shares([0, 1, 2, 3], ["a", "b"], {}), {"a": 2, "b": 2})
        self.assertEqual(shares([0, 1, 2, 3], ["a", "b"], {0: "b", 1: "b", 2: "b", 3: "b"}), {"a": 2, "b": 2})

    def test_a_rest_goes_first_to_those_that_had_more(self):
        rows = [0, 1, 2, 3, 4]
        self.assertEqual(shares(rows, ["a", "b"], {}), {"a": 3, "b": 2})
        self.assertEqual(shares(rows, ["a", "b"], {0: "b", 1: "b"}), {"a": 3, "b": 2})
        self.assertEqual(shares(rows, ["a", "b"], {0: "b", 1: "b", 2: "b"}), {"a": 2, "b": 3})
        self.assertEqual(shares(rows, ["a", "b", "c"], {0: "c", 1: "c", 2: "b", 3: "b"}), {"a": 1, "b": 2, "c": 2})
        self.assertEqual(shares(rows, ["a", "b", "c"], {0: "c", 1: "c", 2: "b"}), {"a": 2, "b": 1, "c": 2})
        self.assertEqual(shares(rows, ["a", "b", "c", "d"], {0: "d", 1: "d", 2: "c", 3: "c"}),
                         {"a": 1, "b": 1, "c": 2, "d": 1})

    def test_rows_not_in_the_list_and_takers_gone_count_for_nothing(self):
        had = {7: "b", 8: "b", 9: "b", 0: "gone", 1: "gone", 2: None}
        self.assertEqual(shares([0, 1, 2], ["b", "a"], had), {"a": 2, "b": 1})

    def test_the_order_of_takers_is_that_of_texts(self):
        self.assertEqual(shares([5], ["b", "ab", "a", "a0", "0"], {}), {"0": 1, "a": 0, "a0": 0, "ab": 0, "b": 0})
        self.assertEqual(shares([1, 2], ["ab", "a0", "a"], {}), {"a": 1, "a0": 1, "ab": 0})
        self.assertEqual(shares([1], ["10", "9", "2"], {}), {"10": 1, "2": 0, "9": 0})

    def test_without_takers_or_rows(self):
        self.assertEqual(shares([0, 1], [], {0: "a"}), {})
        self.assertEqual(shares([], ["a", "b"], {0: "a"}), {"a": 0, "b": 0})
        self.assertEqual(shares([], [], {}), {})


class TestDealt(unittest.TestCase):
    def test_each_keeps_its_lowest_rows(self):
        had = {0: "a", 1: "a", 2: "a", 3: "a"}
        self.assertEqual(dealt([3, 1, 0, 2], ["b", "a"], had), {0: "a", 1: "a", 2: "b", 3: "b"})
        had = {0: "b", 1: "a", 2: "b", 3: "a", 4: "b", 5: "a"}
        self.assertEqual(dealt([0, 1, 2, 3, 4, 5], ["c", "b", "a"], had),
                         {0: "b", 1: "a", 2: "b", 3: "a", 4: "c", 5: "c"})

    def test_other_rows_go_to_takers_in_their_order(self):
        self.assertEqual(dealt([4, 3, 2, 1, 0], ["b", "a"], {}), {0: "a", 1: "a", 2: "a", 3: "b", 4: "b"})
        self.assertEqual(dealt([0, 1, 2, 3], ["c", "a", "b"], {1: "b"}), {0: "a", 1: "b", 2: "a", 3: "c"})

    def test_rows_of_takers_that_are_gone(self):
        self.assertEqual(dealt([0, 1, 2], ["a", "b"], {0: "z", 1: "z", 2: "a"}), {0: "a", 1: "b", 2: "a"})

    def test_without_takers_or_rows(self):
        self.assertEqual(dealt([2, 0], [], {0: "a", 2: None}), {0: None, 2: None})
        self.assertEqual(dealt([], ["a"], {0: "a"}), {})
        self.assertEqual(dealt([], [], {}), {})

    def test_more_takers_than_rows(self):
        self.assertEqual(dealt([0, 1], ["d", "c", "b", "a"], {0: "d"}), {0: "d", 1: "a"})
        self.assertEqual(dealt([0, 1], ["d", "c", "b", "a"], {0: "d", 1: "d"}), {0: "d", 1: "a"})

    def test_all_small_cases(self):
        for rows, takers, had in small_cases():
            now = dealt(rows, takers, had)
            self.assertEqual(sorted(now), sorted(rows))
            self.assertTrue(is_even(now, takers))
            share = shares(rows, takers, had)
            for taker in takers:
                mine = [row for row in rows if now[row] == taker]
                before = sorted(row for row in rows if had[row] == taker)
                self.assertEqual(len(mine), share[taker])
                kept = [row for row in before if row in mine]
                self.assertEqual(kept, before[:share[taker]])

    def test_no_even_dealing_moves_fewer(self):
        for rows, takers, had in small_cases():
            if len(rows) * len(takers) <= 12:
                now = dealt(rows, takers, had)
                moves = moved(had, now)
                self.assertEqual(len(moves), fewest_moves(rows, takers, had))
                paper = paper_of(rows, takers, had)
                self.assertEqual(len(moves), len(rows) - sum(part[3] for part in paper))

    def test_handed_in_in_any_order(self):
        numbers = Numbers(5)
        for rows, takers, had in small_cases():
            if numbers.chance(1, 20):
                other = dict(numbers.mixed(had.items()))
                other[100] = "a"
                for ask in (shares, dealt, paper_of):
                    self.assertEqual(ask(rows, takers, had), ask(numbers.mixed(rows), numbers.mixed(takers), other))

    def test_nothing_handed_in_is_changed_or_shared(self):
        rows, takers, had = [2, 0, 1], ["b", "a"], {2: "b", 9: "a", 0: None}
        for ask in (shares, dealt, paper_of):
            told = ask(rows, takers, had)
            told.clear()
            self.assertEqual((rows, takers, had), ([2, 0, 1], ["b", "a"], {2: "b", 9: "a", 0: None}))
            self.assertNotEqual(ask(rows, takers, had), told)


class TestPaper(unittest.TestCase):
    def test_the_paper(self):
        had = {0: "a", 1: "a", 2: "a", 3: "c", 9: "c", 4: "gone"}
        told = paper_of([0, 1, 2, 3, 4], ["c", "b", "a"], had)
        self.assertEqual(told, [("a", 3, 2, 2), ("b", 0, 2, 0), ("c", 1, 1, 1)])
        self.assertIs(type(told[0]), tuple)
        self.assertEqual(paper_of([0, 1], [], had), [])
        self.assertEqual(paper_of([], ["b", "a"], had), [("a", 0, 0, 0), ("b", 0, 0, 0)])

    def test_the_paper_of_small_cases(self):
        for rows, takers, had in small_cases():
            share = shares(rows, takers, had)
            wanted = []
            for taker in sorted(takers):
                many = sum(had[row] == taker for row in rows)
                wanted.append((taker, many, share[taker], min(many, share[taker])))
            self.assertEqual(paper_of(rows, takers, had), wanted)

    def test_moved(self):
        had = {3: "a", 1: None, 2: "b", 8: "a", 5: "gone"}
        now = {5: "a", 3: "b", 2: "b", 1: None, 4: "c", 0: None, 6: None, 10: "a"}
        self.assertEqual(moved(had, now), [(3, "a", "b"), (4, None, "c"), (5, "gone", "a"), (10, None, "a")])
        self.assertEqual(moved({}, {}), [])
        self.assertEqual(moved({1: "a"}, {1: None}), [(1, "a", None)])
        self.assertEqual(moved({1: "a"}, {}), [])
        self.assertEqual(had, {3: "a", 1: None, 2: "b", 8: "a", 5: "gone"})
        self.assertEqual(len(now), 8)

    def test_arguments_by_name(self):
        self.assertEqual(shares(rows=[0], takers=["a"], had={}), {"a": 1})
        self.assertEqual(dealt(rows=[0], takers=["a"], had={}), {0: "a"})
        self.assertEqual(paper_of(rows=[0], takers=["a"], had={}), [("a", 0, 1, 0)])
        self.assertEqual(moved(had={}, now={0: "a"}), [(0, None, "a")])


class TestKept(unittest.TestCase):
    def told(self, dealing, rows):
        return [dealing.owner_at(row) for row in rows]

    def test_the_beginning(self):
        dealing = Dealing([3, 1, 2])
        self.assertEqual(self.told(dealing, [1, 2, 3]), [None, None, None])
        self.assertEqual(dealing.takers_now(), [])
        self.assertEqual(dealing.rows_at("a"), [])
        self.assertEqual(dealing.moves_with("a"), [(1, None, "a"), (2, None, "a"), (3, None, "a")])

    def test_asking_and_coming_and_going_move_nothing(self):
        dealing = Dealing([0, 1])
        for n in range(2):
            self.assertEqual(dealing.moves_with("b"), [(0, None, "b"), (1, None, "b")])
        self.assertEqual(dealing.takers_now(), [])
        self.assertIsNone(dealing.enter("b"))
        self.assertIsNone(dealing.enter("a"))
        self.assertEqual(dealing.takers_now(), ["a", "b"])
        self.assertEqual(self.told(dealing, [0, 1]), [None, None])
        self.assertEqual(dealing.moves_without("b"), [(0, None, "a"), (1, None, "a")])
        self.assertEqual(dealing.takers_now(), ["a", "b"])
        dealing.give(0, "b")
        self.assertIsNone(dealing.leave("b"))
        self.assertEqual(dealing.takers_now(), ["a"])
        self.assertEqual(self.told(dealing, [0, 1]), ["b", None])

    def test_rows_given_one_by_one(self):
        dealing = Dealing([0, 1, 5])
        self.assertIsNone(dealing.give(5, "x"))
        dealing.give(0, "x")
        dealing.give(1, "y")
        self.assertEqual(dealing.rows_at("x"), [0, 5])
        self.assertEqual(dealing.rows_at("y"), [1])
        self.assertEqual(dealing.takers_now(), [])
        dealing.give(5, None)
        self.assertEqual(dealing.rows_at("x"), [0])
        self.assertIsNone(dealing.owner_at(5))

    def test_rows_of_one_that_is_not_yet_there_count_as_had(self):
        dealing = Dealing([0, 1, 2, 3])
        dealing.enter("a")
        for row in range(4):
            dealing.give(row, "b" if row > 1 else "a")
        self.assertEqual(dealing.moves_with("b"), [])
        self.assertEqual(dealing.moves_with("c"), [(2, "b", "c"), (3, "b", "c")])
        dealing.enter("c")
        self.assertEqual(dealing.moves_without("c"), [(2, "b", "a"), (3, "b", "a")])

    def test_the_last_one_goes(self):
        dealing = Dealing([0, 1])
        dealing.enter("a")
        dealing.give(1, "a")
        self.assertEqual(dealing.moves_without("a"), [(1, "a", None)])

    def test_refusals(self):
        dealing = Dealing([0, 1])
        dealing.enter("a")
        for ask in (dealing.moves_with, dealing.enter):
            self.assertEqual(refusal(Doubled, ask, "a"), ("a",))
        for ask in (dealing.moves_without, dealing.leave):
            self.assertEqual(refusal(NoSuch, ask, "b"), ("b",))
        for row in [2, 10 ** 9]:
            self.assertEqual(refusal(NoSuch, dealing.give, row, "a"), (row,))
            self.assertEqual(refusal(NoSuch, dealing.owner_at, row), (row,))
        self.assertEqual(dealing.takers_now(), ["a"])
        self.assertEqual(self.told(dealing, [0, 1]), [None, None])
        dealing.leave("a")
        self.assertEqual(refusal(NoSuch, dealing.leave, "a"), ("a",))
        self.assertIsNone(dealing.enter("a"))

    def test_as_the_functions_tell(self):
        numbers = Numbers(6)
        rows = [4, 2, 0, 1, 3]
        dealing = Dealing(rows)
        had, there = {row: None for row in rows}, []
        for n in range(400):
            taker = numbers.one_of(["a", "b", "c", "d", "0", "ab"])
            if taker in there:
                there.remove(taker)
                moves = dealing.moves_without(taker)
                dealing.leave(taker)
            else:
                there.append(taker)
                moves = dealing.moves_with(taker)
                dealing.enter(taker)
            now = dealt(rows, there, had)
            self.assertEqual(moves, moved(had, now))
            if numbers.chance(1, 6):
                moves = moves[:1] + [(numbers.one_of(rows), None, numbers.one_of(["a", None, "zz"]))]
            for row, before, taker in moves:
                dealing.give(row, taker)
                had[row] = taker
            self.assertEqual({row: dealing.owner_at(row) for row in rows}, had)
            self.assertEqual(dealing.takers_now(), sorted(there))

    def test_lists_are_the_askers_own(self):
        rows = [1, 0]
        dealing = Dealing(rows)
        rows.append(7)
        refusal(NoSuch, dealing.owner_at, 7)
        dealing.enter("a")
        dealing.give(0, "a")
        dealing.takers_now().append("b")
        dealing.rows_at("a").clear()
        dealing.moves_with("c").clear()
        self.assertEqual((dealing.takers_now(), dealing.rows_at("a")), (["a"], [0]))
        self.assertEqual(rows, [1, 0, 7])
        other = Dealing(rows)
        self.assertEqual((other.takers_now(), other.owner_at(0)), ([], None))

    def test_arguments_by_name(self):
        dealing = Dealing(rows=[0])
        self.assertEqual(dealing.moves_with(taker="a"), [(0, None, "a")])
        dealing.enter(taker="a")
        dealing.give(row=0, taker="a")
        self.assertEqual(dealing.owner_at(row=0), "a")
        self.assertEqual(dealing.rows_at(taker="a"), [0])
        self.assertEqual(dealing.moves_without(taker="a"), [(0, "a", None)])
        dealing.leave(taker="a")
