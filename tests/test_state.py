import unittest

from helper import refusal, shown
from lettercell.errors import BadWord
from lettercell.front import fronts
from lettercell.state import State

SHELVES = [("posts", 2, "table"), ("news", 1, "stream")]


def state_with(letters):
    state = State(SHELVES)
    for row, key, deed in letters:
        place = state.rows[row].add(key, "word", deed)
        if deed:
            state.deeds.hold(deed, row, place)
    return state


class TestState(unittest.TestCase):
    def test_the_beginning(self):
        state = State(SHELVES)
        self.assertEqual(state.shelves.told(), SHELVES)
        self.assertEqual([(row.first, row.end, row.drawn) for row in state.rows], [(0, 0, 0)] * 3)
        self.assertEqual((state.turn, state.groups, state.deeds.pairs()), (0, {}, []))
        self.assertEqual(state.senders.life_of("ann"), 0)
        self.assertEqual([state.front_at(row) for row in range(3)], [0, 0, 0])

    def test_shelves_of_no_form(self):
        for shelves in [[], None, [("posts", 0, "table")], tuple(SHELVES), SHELVES + [("news", 1, "table")]]:
            self.assertEqual(refusal(BadWord, State, shelves), ())

    def test_a_group_begins_at_each_rows_first(self):
        state = state_with([(0, "a", 0), (1, "a", 0), (1, "b", 0), (1, "c", 0)])
        state.rows[1].cut_to(2)
        state.add_group("g", "posts", 7, 4, 2)
        self.assertEqual(sorted(state.groups["g"].lendings), [0, 1])
        self.assertEqual([state.mark_at("g", row) for row in (0, 1)], [0, 2])
        self.assertEqual(state.dealing_in("g").takers_now(), [])
        self.assertEqual([state.dealing_in("g").owner_at(row) for row in (0, 1)], [None, None])
        lending = state.lending_in("g", 1)
        self.assertEqual((lending.row, lending.start, lending.turns, lending.tries, lending.width), (1, 2, 7, 4, 2))

    def test_fronts_are_those_of_all_rows_and_deeds(self):
        state = State(SHELVES)
        for sender in "abc":
            state.deeds.begin(sender, 9)
        for row, deed in [(0, 0), (0, 1), (1, 1), (1, 2), (2, 2), (2, 3), (0, 0)]:
            place = state.rows[row].add("k", "w", deed)
            if deed:
                state.deeds.hold(deed, row, place)
        state.deeds.finish(1, "closed")
        state.deeds.finish(2, "closed")
        self.assertEqual([state.front_at(row) for row in range(3)], [3, 2, 1])
        self.assertEqual([state.front_at(row) for row in range(3)], fronts([3, 2, 2], state.deeds.pairs()))

    def test_the_floor_is_the_least_of_front_and_marks(self):
        state = state_with([(0, "a", 0), (0, "b", 0), (0, "c", 0), (2, "d", 0)])
        self.assertEqual([state.floor_at(row) for row in range(3)], [3, 0, 1])
        state.add_group("g", "posts", 5, 3, 1)
        self.assertEqual([state.floor_at(row) for row in range(3)], [0, 0, 1])
        state.lending_in("g", 0).settle(0)
        state.lending_in("g", 0).settle(1)
        self.assertEqual((state.floor_at(0), state.mark_at("g", 0)), (2, 2))
        state.add_group("h", "posts", 5, 3, 1)
        self.assertEqual(state.floor_at(0), 0)
        state.lending_in("h", 0).set_aside(0)
        self.assertEqual(state.floor_at(0), 1)
        state.add_group("n", "news", 5, 3, 1)
        self.assertEqual((state.floor_at(0), state.floor_at(2)), (1, 0))

    def test_asking_changes_nothing(self):
        state = state_with([(0, "a", 0), (0, "b", 0)])
        state.add_group("g", "posts", 5, 3, 1)
        before = shown(state)
        state.front_at(0)
        state.floor_at(0)
        state.mark_at("g", 0)
        self.assertEqual(state.letters_beneath(0, 1), [(0, "a", "word")])
        self.assertEqual(shown(state), before)

    def test_two_objects_share_nothing(self):
        handed = list(SHELVES)
        one, other = State(handed), State(handed)
        one.rows[0].add("a", "b")
        one.add_group("g", "posts", 5, 3, 1)
        one.senders.hail("ann")
        one.turn = 4
        handed.clear()
        self.assertEqual(shown(other), shown(State(SHELVES)))
