import unittest

from helper import shown
from lettercell.events import HAPPENINGS, PARTS, body_for, body_for_shelves, event_in, event_of, happen, shelves_in
from lettercell.state import State

SHELVES = [("posts", 2, "table"), ("news", 1, "stream")]

# Each event's name and values, and its body to the sign.
BODIES = [
    ("hail", ["ann", 2], "hail;ann;2"),
    ("put", ["ann", 1, 0, 2, 14, "k;1", "a~b"], "put;ann;1;0;2;14;k~s1;=a~wb"),
    ("put", ["ann", 1, 7, 0, 0, "k", None], "put;ann;1;7;0;0;k;-"),
    ("put", ["ann", 1, 7, 0, 0, "-", "-"], "put;ann;1;7;0;0;-;=-"),
    ("put", ["ann", 1, 7, 0, 0, " ", ""], "put;ann;1;7;0;0; ;="),
    ("begin", [3, "ann", 20], "begin;3;ann;20"),
    ("pledge", [3, "g", 1, 9], "pledge;3;g;1;9"),
    ("close", [3], "close;3"),
    ("drop", [3], "drop;3"),
    ("found", ["g", "posts", 5, 3, 1], "found;g;posts;5;3;1"),
    ("enter", ["g", "tom"], "enter;g;tom"),
    ("leave", ["g", "tom"], "leave;g;tom"),
    ("deal", ["g", 1, "tom"], "deal;g;1;tom"),
    ("deal", ["g", 1, None], "deal;g;1;"),
    ("aside", ["g", 1, 0], "aside;g;1;0"),
    ("lend", ["g", 1, 4, "tom", 2, 25], "lend;g;1;4;tom;2;25"),
    ("answer", ["g", 1, 4, 2], "answer;g;1;4;2"),
    ("back", ["g", 1, 4, 2], "back;g;1;4;2"),
    ("turn", [1000], "turn;1000"),
    ("attach", ["rea", 1, 0], "attach;rea;1;0"),
    ("advance", ["rea", 6], "advance;rea;6"),
    ("detach", ["rea"], "detach;rea"),
    ("away", [0, 3], "away;0;3"),
    ("drawn", [0, 5], "drawn;0;5"),
    ("cut", [2, 5], "cut;2;5"),
]


def after(*events):
    state = State(SHELVES)
    for name, values in events:
        happen(state, event_of(name, values))
    return state


def put(sender, number, deed, row, place, key="k", word="w"):
    return ("put", [sender, number, deed, row, place, key, word])


GROUP = [("hail", ["ann", 1]), put("ann", 1, 0, 0, 0), put("ann", 2, 0, 0, 1), ("found", ["g", "posts", 5, 3, 2]),
         ("enter", ["g", "tom"]), ("deal", ["g", 0, "tom"]), ("deal", ["g", 1, "tom"])]
LENT = GROUP + [("turn", [7]), ("lend", ["g", 0, 0, "tom", 1, 12])]


class TestBodies(unittest.TestCase):
    def test_to_the_sign_and_read_back(self):
        for name, values, body in BODIES:
            event = event_of(name, values)
            self.assertEqual(body_for(event), body)
            self.assertEqual(event_in(body), event)

    def test_each_event_is_told_here(self):
        self.assertEqual(sorted({name for name, values, body in BODIES}), sorted(PARTS))
        self.assertEqual(sorted(PARTS), sorted(HAPPENINGS))

    def test_numbers_are_read_as_numbers(self):
        event = event_in("put;7;8;9;10;11;12;=13")
        self.assertEqual(event, {"event": "put", "sender": "7", "number": 8, "deed": 9, "row": 10, "place": 11,
                                 "key": "12", "word": "13"})

    def test_the_making(self):
        self.assertEqual(body_for_shelves(SHELVES), "shelves;posts;2;table;news;1;stream")
        self.assertEqual(shelves_in("shelves;posts;2;table;news;1;stream"), SHELVES)
        self.assertEqual(shelves_in(body_for_shelves(SHELVES[:1])), SHELVES[:1])

    def test_the_same_state_by_events_and_by_their_bodies(self):
        one, other = State(SHELVES), State(SHELVES)
        for name, values in LENT:
            happen(one, event_of(name, values))
            happen(other, event_in(body_for(event_of(name, values))))
            self.assertEqual(shown(one), shown(other))


class TestHappenings(unittest.TestCase):
    def test_hail(self):
        state = after(("hail", ["ann", 1]), ("hail", ["ann", 2]))
        self.assertEqual((state.senders.life_of("ann"), state.senders.last_of("ann")), (2, 0))

    def test_put_by_itself(self):
        state = after(("hail", ["ann", 1]), put("ann", 1, 0, 2, 0, "k", None))
        self.assertEqual(state.rows[2].at(0), ("k", None, 0))
        self.assertEqual(state.senders.spot_of("ann", 1), (2, 0))
        self.assertEqual(state.senders.last_of("ann"), 1)

    def test_put_in_a_deed_that_is_closed_or_dropped(self):
        begun = [("hail", ["ann", 1]), ("begin", [1, "ann", 9]), put("ann", 1, 1, 2, 0), put("ann", 2, 0, 2, 1),
                 put("ann", 3, 1, 0, 0)]
        state = after(*begun)
        self.assertEqual((state.deeds.fate_of(1), state.deeds.spots_of(1)), ("open", [(2, 0), (0, 0)]))
        self.assertEqual(state.deeds.overdue(9), [1])
        self.assertEqual(state.deeds.overdue(8), [])
        self.assertEqual(state.rows[2].at(0), ("k", "w", 1))
        closed = after(*begun, ("close", [1]))
        self.assertEqual((closed.deeds.fate_of(1), closed.rows[2].at(0)), ("closed", ("k", "w", 1)))
        dropped = after(*begun, ("drop", [1]))
        self.assertEqual((dropped.deeds.fate_of(1), dropped.deeds.open_of("ann")), ("dropped", 0))
        self.assertEqual([dropped.rows[2].at(0), dropped.rows[2].at(1), dropped.rows[0].at(0)], [None, ("k", "w", 0), None])
        self.assertEqual((dropped.rows[2].end, dropped.rows[2].first), (2, 0))
        self.assertEqual(dropped.senders.spot_of("ann", 1), (2, 0))

    def test_pledge(self):
        state = after(*LENT, ("begin", [1, "ann", 9]), ("pledge", [1, "g", 0, 1]))
        self.assertEqual(state.deeds.pledges_of(1), [("g", 0, 1)])

    def test_found_enter_and_deal(self):
        state = after(*GROUP)
        self.assertEqual(state.dealing_in("g").takers_now(), ["tom"])
        self.assertEqual(state.dealing_in("g").rows_at("tom"), [0, 1])
        self.assertEqual(state.groups["g"].shelf, "posts")
        self.assertEqual((state.lending_in("g", 1).tries, state.lending_in("g", 1).width), (3, 2))

    def test_lend_answer_back_and_aside(self):
        state = after(*LENT)
        self.assertEqual(state.lending_in("g", 0).loan_at(0), (1, "tom", 12))
        self.assertEqual(state.turn, 7)
        for name, values, fate in [("answer", ["g", 0, 0, 1], "answered"), ("back", ["g", 0, 0, 1], None),
                                   ("aside", ["g", 0, 0], "aside")]:
            lending = after(*LENT, (name, values)).lending_in("g", 0)
            self.assertEqual((lending.loan_at(0), lending.fate_at(0), lending.tried_at(0)), (None, fate, 1))

    def test_loans_are_called_back_where_a_row_is_dealt(self):
        for owner in ["ann", None]:
            state = after(*LENT, ("deal", ["g", 0, owner]))
            self.assertEqual(state.lending_in("g", 0).loan_at(0), (0, "tom", 12))
            self.assertEqual(state.dealing_in("g").owner_at(0), owner)
            other = after(*LENT, ("deal", ["g", 1, owner]))
            self.assertEqual(other.lending_in("g", 0).loan_at(0), (1, "tom", 12))

    def test_loans_are_let_go_in_all_rows_where_a_taker_leaves(self):
        state = after(*LENT, put("ann", 3, 0, 1, 0), ("lend", ["g", 1, 0, "tom", 1, 12]),
                      ("lend", ["g", 0, 1, "bob", 2, 12]), ("leave", ["g", "tom"]))
        self.assertEqual([state.lending_in("g", 0).loan_at(place) for place in (0, 1)], [None, (2, "bob", 12)])
        self.assertIsNone(state.lending_in("g", 1).loan_at(0))
        self.assertEqual(state.dealing_in("g").takers_now(), [])
        self.assertEqual(state.dealing_in("g").rows_at("tom"), [0, 1])

    def test_readers(self):
        state = after(("attach", ["rea", 1, 4]), ("advance", ["rea", 6]))
        self.assertEqual((state.readers.row_now("rea"), state.readers.place_now("rea")), (1, 6))
        state = after(("attach", ["rea", 1, 4]), ("detach", ["rea"]), ("attach", ["rea", 0, 0]))
        self.assertEqual((state.readers.row_now("rea"), state.readers.place_now("rea")), (0, 0))

    def test_away_drawn_and_cut(self):
        puts = [("hail", ["ann", 1])] + [put("ann", n + 1, 0, 2, n) for n in range(4)]
        state = after(*puts, ("away", [2, 1]), ("drawn", [2, 3]))
        row = state.rows[2]
        self.assertEqual([row.at(place) is None for place in range(4)], [False, True, False, False])
        self.assertEqual((row.first, row.end, row.drawn), (0, 4, 3))
        happen(state, event_of("drawn", [2, 1]))
        self.assertEqual(row.drawn, 3)
        happen(state, event_of("cut", [2, 3]))
        self.assertEqual((row.first, row.end, row.seen(0, 9, 9)), (3, 4, [(3, "k", "w")]))

    def test_turn(self):
        self.assertEqual(after(("turn", [1000])).turn, 1000)
