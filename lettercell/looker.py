"""The looker: from written lines alone, what became of each letter."""

from lettercell.book import acts_of
from lettercell.events import event_in


def events_of(lines):
    bodies = []
    for act in acts_of(lines)[0]:
        bodies.extend(act)
    # The first body is the making, which tells of no letter.
    return [event_in(body) for body in bodies[1:]]


def is_at(event, row, place):
    return event["row"] == row and event["place"] == place


def put_at(events, row, place):
    for event in events:
        if event["event"] == "put" and is_at(event, row, place):
            return event
    return None


def told_of_place(event):
    name = event["event"]
    if name == "put":
        return ("put", event["sender"], event["number"], event["deed"])
    if name == "lend":
        return ("lent", event["group"], event["taker"], event["loan"], event["end"])
    if name == "back":
        return ("back", event["group"], event["loan"])
    if name == "answer":
        return ("answered", event["group"], event["loan"])
    if name == "aside":
        return ("aside", event["group"])
    return ("away",)


def told_of(event, put, stands):
    name = event["event"]
    if name in ("put", "lend", "back", "answer", "aside", "away"):
        return told_of_place(event) if is_at(event, put["row"], put["place"]) else None
    if name in ("close", "drop") and event["deed"] == put["deed"]:
        return ("closed",) if name == "close" else ("dropped",)
    if name == "cut" and stands and event["row"] == put["row"] and event["place"] > put["place"]:
        return ("cut",)
    return None


def tale(lines, row, place):
    events = events_of(lines)
    put = put_at(events, row, place)
    if put is None:
        return []
    told = []
    stands = True
    for event in events:
        part = told_of(event, put, stands)
        if part is not None:
            told.append(part)
            stands = stands and part[0] not in ("dropped", "away", "cut")
    return told


def closed_deeds(events):
    return [event["deed"] for event in events if event["event"] == "close"]


def left_by(letters, event, row):
    name = event["event"]
    if name == "away" and event["row"] == row:
        return [letter for letter in letters if letter["place"] != event["place"]]
    if name == "cut" and event["row"] == row:
        return [letter for letter in letters if letter["place"] >= event["place"]]
    return letters


def standing(lines, row):
    events = events_of(lines)
    letters = []
    for event in events:
        if event["event"] == "put" and event["row"] == row:
            letters.append(event)
        else:
            letters = left_by(letters, event, row)
    # Neither the letters of an open deed nor those of a dropped one are told.
    bearing = [0] + closed_deeds(events)
    kept = [letter for letter in letters if letter["deed"] in bearing]
    return [(letter["place"], letter["key"], letter["word"]) for letter in kept]


def asides(lines, group, row):
    places = []
    for event in events_of(lines):
        if event["event"] == "aside" and event["group"] == group and event["row"] == row:
            places.append(event["place"])
    return sorted(places)


def spot_told(lines, sender, number):
    for event in events_of(lines):
        if event["event"] == "put" and event["sender"] == sender and event["number"] == number:
            return (event["row"], event["place"])
    return None
