"""The cellar: each call asks the state, writes the events that follow from it as one act, and lets them happen."""

from lettercell.asks import GREATEST, advance_act, asked_group, asked_group_row, asked_row, attach_act, begin_act
from lettercell.asks import check_wholes, close_act, cut_act, detach_act, draw_act, drop_act, enter_act, found_act
from lettercell.asks import hail_act, leave_act, loan_act, looked_at, pass_act, pledge_act, put_act, read_from, take_act
from lettercell.book import Book, acts_of, book_of
from lettercell.errors import Broken
from lettercell.events import body_for, body_for_shelves, event_in, happen, shelves_in
from lettercell.state import State


class Cellar:
    def __init__(self, shelves):
        self.state = State(shelves)
        self.book = Book()
        self.book.write([body_for_shelves(self.state.shelves.told())])

    def act(self, asked):
        events = asked[0]
        if events:
            self.book.write([body_for(event) for event in events])
        for event in events:
            happen(self.state, event)
        return asked[1]

    def hail(self, sender):
        return self.act(hail_act(self.state, sender))

    def put(self, sender, life, number, shelf, key, word=None, deed=0):
        return self.act(put_act(self.state, sender, life, number, shelf, (key, word), deed))

    def begin(self, sender, life, turns=10):
        return self.act(begin_act(self.state, sender, life, turns))

    def pledge(self, sender, life, group, row, loan):
        return self.act(pledge_act(self.state, sender, life, group, row, loan))

    def close(self, sender, life):
        return self.act(close_act(self.state, sender, life))

    def drop(self, sender, life):
        return self.act(drop_act(self.state, sender, life))

    def fate_of(self, deed):
        check_wholes([(deed, 1, GREATEST)])
        return self.state.deeds.fate_of(deed)

    def found(self, group, shelf, turns=5, tries=3, width=1):
        return self.act(found_act(self.state, group, shelf, turns, tries, width))

    def enter(self, group, taker):
        return self.act(enter_act(self.state, group, taker))

    def leave(self, group, taker):
        return self.act(leave_act(self.state, group, taker))

    def take(self, group, taker, row):
        return self.act(take_act(self.state, group, taker, row))

    def answer(self, group, row, loan):
        return self.act(loan_act("answer", self.state, group, row, loan))

    def give_back(self, group, row, loan):
        return self.act(loan_act("back", self.state, group, row, loan))

    def pass_turns(self, many):
        return self.act(pass_act(self.state, many))

    def attach(self, reader, row):
        return self.act(attach_act(self.state, reader, row))

    def detach(self, reader):
        return self.act(detach_act(self.state, reader))

    def look(self, reader, most=10):
        return looked_at(self.state, reader, most)

    def advance(self, reader, place):
        return self.act(advance_act(self.state, reader, place))

    def draw(self, row):
        return self.act(draw_act(self.state, row))

    def cut(self, row, place):
        return self.act(cut_act(self.state, row, place))

    def read(self, row, start, most=10, whole=True):
        return read_from(self.state, row, start, most, whole)

    def front_of(self, row):
        asked_row(self.state, row)
        return self.state.front_at(row)

    def floor_of(self, row):
        asked_row(self.state, row)
        return self.state.floor_at(row)

    def drawn_of(self, row):
        asked_row(self.state, row)
        return self.state.rows[row].drawn

    def mark_of(self, group, row):
        asked_group_row(self.state, group, row)
        return self.state.mark_at(group, row)

    def owner_of(self, group, row):
        asked_group_row(self.state, group, row)
        return self.state.dealing_in(group).owner_at(row)

    def aside_of(self, group, row):
        asked_group_row(self.state, group, row)
        return self.state.lending_in(group, row).asides()

    def takers_of(self, group):
        asked_group(self.state, group)
        return self.state.dealing_in(group).takers_now()

    def rows_dealt(self, group, taker):
        asked_group(self.state, group)
        return self.state.dealing_in(group).rows_at(taker)

    def now(self):
        return self.state.turn

    def written(self):
        return self.book.told()


def come_up(lines):
    whole = acts_of(lines)
    acts = whole[0]
    if not acts:
        raise Broken(0)
    cellar = Cellar(shelves_in(acts[0][0]))
    for act in acts[1:]:
        for body in act:
            happen(cellar.state, event_in(body))
    cellar.book = book_of(lines)
    return (cellar, len(lines) - whole[1])
