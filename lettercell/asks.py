"""What is asked of a cellar's state: what is refused, and which events an act would write, with what it tells.

None of these changes the state. An act is told as a tuple: the list of its events, and what the call tells.
"""

from lettercell.drawing import drawn_away
from lettercell.errors import BadWord, Beyond, Doubled, Gone, Needed, NoDeed, NoSuch, NotYours, WrongKind
from lettercell.events import event_of
from lettercell.words import is_key, is_name, is_whole, is_word

GREATEST = 1000000000
TURNS_MOST = 1000
LETTERS_MOST = 1000
TRIES_MOST = 100
WIDTH_MOST = 100


def check_names(names):
    if not all([is_name(name) for name in names]):
        raise BadWord()


def check_wholes(bounded):
    if not all([is_whole(thing, low, high) for thing, low, high in bounded]):
        raise BadWord()


def check_letter(key, word):
    if not is_key(key) or not is_word(word):
        raise BadWord()


def check_truth(thing):
    if thing is not True and thing is not False:
        raise BadWord()


def check_there(state, row):
    # It refuses a row that is not there.
    state.shelves.shelf_at(row)


def check_group(state, group):
    if group not in state.groups:
        raise NoSuch(group)


def check_group_row(state, group, row):
    check_group(state, group)
    if row not in state.groups[group].lendings:
        raise NoSuch(row)


def check_kind(state, row, kind):
    if state.shelves.kind_at(row) != kind:
        raise WrongKind(row)


def asked_row(state, row):
    check_wholes([(row, 0, GREATEST)])
    check_there(state, row)


def asked_group(state, group):
    check_names([group])
    check_group(state, group)


def asked_group_row(state, group, row):
    check_names([group])
    check_wholes([(row, 0, GREATEST)])
    check_group_row(state, group, row)


def asked_sender(state, sender, life):
    check_names([sender])
    check_wholes([(life, 1, GREATEST)])
    state.senders.allow(sender, life)


def asked_reader(state, reader):
    check_names([reader])
    state.readers.need(reader)


def hail_act(state, sender):
    check_names([sender])
    events = []
    deed = state.deeds.open_of(sender)
    if deed != 0:
        events.append(event_of("drop", [deed]))
    life = state.senders.life_of(sender) + 1
    events.append(event_of("hail", [sender, life]))
    return (events, (life, state.senders.last_of(sender)))


def put_act(state, sender, life, number, shelf, letter, deed):
    check_names([sender, shelf])
    check_wholes([(life, 1, GREATEST), (number, 1, GREATEST), (deed, 0, GREATEST)])
    check_letter(letter[0], letter[1])
    state.senders.need(sender)
    row = state.shelves.row_for(shelf, letter[0])
    state.senders.allow(sender, life)
    known = state.senders.spot_of(sender, number)
    if known is not None:
        return ([], known)
    if deed != 0 and deed != state.deeds.open_of(sender):
        raise NoDeed(sender)
    place = state.rows[row].end
    return ([event_of("put", [sender, number, deed, row, place, letter[0], letter[1]])], (row, place))


def begin_act(state, sender, life, turns):
    check_wholes([(turns, 1, TURNS_MOST)])
    asked_sender(state, sender, life)
    state.deeds.need_free(sender)
    deed = state.deeds.next_number()
    return ([event_of("begin", [deed, sender, state.turn + turns])], deed)


def pledge_act(state, sender, life, group, row, loan):
    check_names([sender, group])
    check_wholes([(life, 1, GREATEST), (row, 0, GREATEST), (loan, 1, GREATEST)])
    state.senders.need(sender)
    check_group_row(state, group, row)
    state.senders.allow(sender, life)
    deed = state.deeds.need_open(sender)
    # It refuses a loan that does not stand any more.
    state.lending_in(group, row).place_of(loan, state.turn)
    state.deeds.need_unpledged(deed, group, row, loan)
    return ([event_of("pledge", [deed, group, row, loan])], None)


def close_act(state, sender, life):
    asked_sender(state, sender, life)
    deed = state.deeds.need_open(sender)
    events = []
    for group, row, loan in state.deeds.pledges_of(deed):
        place = state.lending_in(group, row).place_of(loan, state.turn)
        events.append(event_of("answer", [group, row, place, loan]))
    events.append(event_of("close", [deed]))
    return (events, state.deeds.spots_of(deed))


def drop_act(state, sender, life):
    asked_sender(state, sender, life)
    deed = state.deeds.need_open(sender)
    return ([event_of("drop", [deed])], deed)


def found_act(state, group, shelf, turns, tries, width):
    check_names([group, shelf])
    check_wholes([(turns, 1, TURNS_MOST), (tries, 1, TRIES_MOST), (width, 1, WIDTH_MOST)])
    # It refuses a shelf that is not there.
    state.shelves.rows_of(shelf)
    if group in state.groups:
        raise Doubled(group)
    return ([event_of("found", [group, shelf, turns, tries, width])], None)


def dealt_act(name, group, taker, moves):
    events = [event_of(name, [group, taker])]
    for row, before, owner in moves:
        events.append(event_of("deal", [group, row, owner]))
    return (events, moves)


def enter_act(state, group, taker):
    check_names([group, taker])
    check_group(state, group)
    return dealt_act("enter", group, taker, state.dealing_in(group).moves_with(taker))


def leave_act(state, group, taker):
    check_names([group, taker])
    check_group(state, group)
    return dealt_act("leave", group, taker, state.dealing_in(group).moves_without(taker))


def take_act(state, group, taker, row):
    check_names([group, taker])
    check_wholes([(row, 0, GREATEST)])
    check_group(state, group)
    state.dealing_in(group).need_there(taker)
    check_group_row(state, group, row)
    owner = state.dealing_in(group).owner_at(row)
    if owner != taker:
        raise NotYours(row, owner)
    lending = state.lending_in(group, row)
    due = lending.due_in(state.rows[row], state.front_at(row), state.turn)
    events = [event_of("aside", [group, row, place]) for place in due[0]]
    place = due[1]
    if place is None:
        return (events, None)
    loan = lending.next_loan()
    events.append(event_of("lend", [group, row, place, taker, loan, state.turn + lending.turns]))
    letter = state.rows[row].at(place)
    return (events, (place, letter[0], letter[1], loan))


def loan_act(name, state, group, row, loan):
    check_names([group])
    check_wholes([(row, 0, GREATEST), (loan, 1, GREATEST)])
    check_group_row(state, group, row)
    place = state.lending_in(group, row).place_of(loan, state.turn)
    return ([event_of(name, [group, row, place, loan])], place)


def pass_act(state, many):
    check_wholes([(many, 1, TURNS_MOST)])
    turn = state.turn + many
    events = [event_of("turn", [turn])]
    for deed in state.deeds.overdue(turn):
        events.append(event_of("drop", [deed]))
    return (events, turn)


def attach_act(state, reader, row):
    check_names([reader])
    asked_row(state, row)
    state.readers.need_new(reader)
    place = state.rows[row].first
    return ([event_of("attach", [reader, row, place])], place)


def detach_act(state, reader):
    asked_reader(state, reader)
    return ([event_of("detach", [reader])], None)


def looked_at(state, reader, most):
    check_wholes([(most, 1, LETTERS_MOST)])
    asked_reader(state, reader)
    row = state.readers.row_now(reader)
    front = state.front_at(row)
    letters = state.rows[row].seen(state.readers.place_now(reader), front, most)
    upto = front if len(letters) < most else letters[-1][0] + 1
    return (letters, upto)


def advance_act(state, reader, place):
    check_wholes([(place, 0, GREATEST)])
    asked_reader(state, reader)
    row = state.readers.row_now(reader)
    front = state.front_at(row)
    if place > front:
        raise Beyond(row, front)
    own = state.readers.place_now(reader)
    if place <= own:
        return ([], own)
    return ([event_of("advance", [reader, place])], place)


def draw_act(state, row):
    asked_row(state, row)
    check_kind(state, row, "table")
    floor = state.floor_at(row)
    away = drawn_away(state.rows[row], floor, state.readers.passed_at(row, floor))
    events = [event_of("away", [row, place]) for place in away]
    if away or floor > state.rows[row].drawn:
        events.append(event_of("drawn", [row, floor]))
    return (events, away)


def cut_act(state, row, place):
    check_wholes([(place, 0, GREATEST)])
    asked_row(state, row)
    check_kind(state, row, "stream")
    limit = state.readers.passed_at(row, state.floor_at(row))
    if place > limit:
        raise Needed(row, limit)
    if place <= state.rows[row].first:
        return ([], [])
    gone = [letter[0] for letter in state.letters_beneath(row, place)]
    return ([event_of("cut", [row, place])], gone)


def read_from(state, row, start, most, whole):
    check_wholes([(start, 0, GREATEST), (most, 1, LETTERS_MOST)])
    check_truth(whole)
    asked_row(state, row)
    kept = state.rows[row]
    if start < kept.first:
        raise Gone(row, kept.first)
    return kept.seen(start, state.front_at(row) if whole else kept.end, most)
