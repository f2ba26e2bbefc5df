"""Rows, in which letters stand at places, and the shelves that rows belong to."""

from lettercell.errors import BadWord, NoSuch
from lettercell.words import is_name, is_whole, row_in

KINDS = ("table", "stream")
SHELVES_MOST = 6
ROWS_MOST = 9


class Row:
    def __init__(self):
        self.first = 0
        self.end = 0
        self.drawn = 0
        # By place: a place that was taken out has no entry, and gets none again, for the end only grows.
        self.letters = {}

    def add(self, key, word, deed=0):
        place = self.end
        self.letters[place] = (key, word, deed)
        self.end = place + 1
        return place

    def at(self, place):
        return self.letters.get(place)

    def seen(self, start, limit, most):
        found = []
        # Bounded by the row's own ends, so that very great numbers cost no walk.
        for place in range(max(start, self.first), min(limit, self.end)):
            if len(found) >= most:
                break
            letter = self.at(place)
            if letter is not None:
                found.append((place, letter[0], letter[1]))
        return found

    def take_out(self, place):
        return self.letters.pop(place, None) is not None

    def cut_to(self, place):
        upto = min(place, self.end)
        gone = []
        for spot in range(self.first, upto):
            if self.take_out(spot):
                gone.append(spot)
        self.first = max(self.first, upto)
        return gone

    def raise_drawn(self, place):
        self.drawn = max(self.drawn, place)


def is_kind(thing):
    # Asked for a text first: another thing's own way of comparing is not to decide.
    return isinstance(thing, str) and thing in KINDS


def is_shelf(thing):
    if not isinstance(thing, tuple) or len(thing) != 3:
        return False
    return is_name(thing[0]) and is_whole(thing[1], 1, ROWS_MOST) and is_kind(thing[2])


def are_shelves(thing):
    if not isinstance(thing, list) or not 1 <= len(thing) <= SHELVES_MOST:
        return False
    if not all([is_shelf(shelf) for shelf in thing]):
        return False
    return len(set([shelf[0] for shelf in thing])) == len(thing)


class Shelves:
    def __init__(self, shelves):
        if not are_shelves(shelves):
            raise BadWord()
        self.shelves = list(shelves)

    def told(self):
        return list(self.shelves)

    def many_rows(self):
        return sum([shelf[1] for shelf in self.shelves])

    def rows_of(self, name):
        start = 0
        for shelf in self.shelves:
            if shelf[0] == name:
                return list(range(start, start + shelf[1]))
            start += shelf[1]
        raise NoSuch(name)

    def shelf_with(self, row):
        end = 0
        for shelf in self.shelves:
            end += shelf[1]
            if 0 <= row < end:
                return shelf
        raise NoSuch(row)

    def shelf_at(self, row):
        return self.shelf_with(row)[0]

    def kind_at(self, row):
        return self.shelf_with(row)[2]

    def row_for(self, name, key):
        rows = self.rows_of(name)
        return rows[row_in(key, len(rows))]
