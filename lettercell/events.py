"""Events: what one body of the book tells, and what it makes of a cellar's state."""

from lettercell.lines import joined, parted

# Of each event, by the name that its body begins with, what is told behind the name.
PARTS = {
    "hail": ("sender", "life"),
    "put": ("sender", "number", "deed", "row", "place", "key", "word"),
    "begin": ("deed", "sender", "end"),
    "pledge": ("deed", "group", "row", "loan"),
    "close": ("deed",),
    "drop": ("deed",),
    "found": ("group", "shelf", "turns", "tries", "width"),
    "enter": ("group", "taker"),
    "leave": ("group", "taker"),
    "deal": ("group", "row", "owner"),
    "aside": ("group", "row", "place"),
    "lend": ("group", "row", "place", "taker", "loan", "end"),
    "answer": ("group", "row", "place", "loan"),
    "back": ("group", "row", "place", "loan"),
    "turn": ("turn",),
    "attach": ("reader", "row", "place"),
    "advance": ("reader", "place"),
    "detach": ("reader",),
    "away": ("row", "place"),
    "drawn": ("row", "floor"),
    "cut": ("row", "place"),
}
TEXTS = ("sender", "key", "group", "shelf", "taker", "reader")


def word_text(word):
    return "-" if word is None else "=" + word


def word_in(text):
    return None if text == "-" else text[1:]


def owner_text(owner):
    return "" if owner is None else owner


def owner_in(text):
    return None if text == "" else text


def text_of(part, value):
    if part in TEXTS:
        return value
    if part == "word":
        return word_text(value)
    if part == "owner":
        return owner_text(value)
    return str(value)


def value_of(part, text):
    if part in TEXTS:
        return text
    if part == "word":
        return word_in(text)
    if part == "owner":
        return owner_in(text)
    return int(text)


def event_of(name, values):
    event = {"event": name}
    for part, value in zip(PARTS[name], values):
        event[part] = value
    return event


def body_for(event):
    name = event["event"]
    return joined([name] + [text_of(part, event[part]) for part in PARTS[name]])


def event_in(body):
    texts = parted(body)
    name = texts[0]
    return event_of(name, [value_of(part, text) for part, text in zip(PARTS[name], texts[1:])])


def body_for_shelves(shelves):
    texts = ["shelves"]
    for name, many, kind in shelves:
        texts.extend([name, str(many), kind])
    return joined(texts)


def shelves_in(body):
    texts = parted(body)[1:]
    return [(texts[k], int(texts[k + 1]), texts[k + 2]) for k in range(0, len(texts), 3)]


def hail_happens(state, event):
    state.senders.hail(event["sender"])


def put_happens(state, event):
    row = event["row"]
    place = state.rows[row].add(event["key"], event["word"], event["deed"])
    state.senders.note(event["sender"], event["number"], row, place)
    if event["deed"] != 0:
        state.deeds.hold(event["deed"], row, place)


def begin_happens(state, event):
    state.deeds.begin(event["sender"], event["end"])


def pledge_happens(state, event):
    state.deeds.pledge(event["deed"], event["group"], event["row"], event["loan"])


def close_happens(state, event):
    state.deeds.finish(event["deed"], "closed")


def drop_happens(state, event):
    for row, place in state.deeds.spots_of(event["deed"]):
        state.rows[row].take_out(place)
    state.deeds.finish(event["deed"], "dropped")


def found_happens(state, event):
    state.add_group(event["group"], event["shelf"], event["turns"], event["tries"], event["width"])


def enter_happens(state, event):
    state.dealing_in(event["group"]).enter(event["taker"])


def leave_happens(state, event):
    group = state.groups[event["group"]]
    group.dealing.leave(event["taker"])
    for lending in group.lendings.values():
        lending.let_go(event["taker"])


def deal_happens(state, event):
    state.dealing_in(event["group"]).give(event["row"], event["owner"])
    state.lending_in(event["group"], event["row"]).call_back()


def aside_happens(state, event):
    state.lending_in(event["group"], event["row"]).set_aside(event["place"])


def lend_happens(state, event):
    state.lending_in(event["group"], event["row"]).lend(event["place"], event["taker"], state.turn)


def answer_happens(state, event):
    state.lending_in(event["group"], event["row"]).settle(event["place"])


def back_happens(state, event):
    state.lending_in(event["group"], event["row"]).give_back(event["place"])


def turn_happens(state, event):
    state.turn = event["turn"]


def attach_happens(state, event):
    state.readers.attach(event["reader"], event["row"], event["place"])


def advance_happens(state, event):
    state.readers.move(event["reader"], event["place"])


def detach_happens(state, event):
    state.readers.detach(event["reader"])


def away_happens(state, event):
    state.rows[event["row"]].take_out(event["place"])


def drawn_happens(state, event):
    state.rows[event["row"]].raise_drawn(event["floor"])


def cut_happens(state, event):
    state.rows[event["row"]].cut_to(event["place"])


HAPPENINGS = {
    "hail": hail_happens,
    "put": put_happens,
    "begin": begin_happens,
    "pledge": pledge_happens,
    "close": close_happens,
    "drop": drop_happens,
    "found": found_happens,
    "enter": enter_happens,
    "leave": leave_happens,
    "deal": deal_happens,
    "aside": aside_happens,
    "lend": lend_happens,
    "answer": answer_happens,
    "back": back_happens,
    "turn": turn_happens,
    "attach": attach_happens,
    "advance": advance_happens,
    "detach": detach_happens,
    "away": away_happens,
    "drawn": drawn_happens,
    "cut": cut_happens,
}


def happen(state, event):
    happening = HAPPENINGS[event["event"]]
    happening(state, event)
