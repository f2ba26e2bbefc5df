"""Readers, their rows and places, and the tables that they make."""

from lettercell.errors import Doubled, NoSuch


class Readers:
    def __init__(self):
        # Each by the reader's name.
        self.rows = {}
        self.places = {}

    def need(self, name):
        if name not in self.rows:
            raise NoSuch(name)

    def need_new(self, name):
        if name in self.rows:
            raise Doubled(name)

    def attach(self, name, row, place):
        self.need_new(name)
        self.rows[name] = row
        self.places[name] = place

    def detach(self, name):
        self.need(name)
        self.rows.pop(name)
        self.places.pop(name)

    def row_now(self, name):
        self.need(name)
        return self.rows[name]

    def place_now(self, name):
        self.need(name)
        return self.places[name]

    def move(self, name, place):
        self.need(name)
        self.places[name] = max(self.places[name], place)
        return self.places[name]

    def passed_at(self, row, floor):
        return min([floor] + [self.places[name] for name in self.rows if self.rows[name] == row])


class Table:
    def __init__(self):
        self.place = 0
        # Of each key its last word and that one's place; None is kept too, for a stone has a place as well.
        self.words = {}
        self.lasts = {}

    def take(self, letters, upto):
        for place, key, word in letters:
            if place >= self.place:
                self.words[key] = word
                self.lasts[key] = place
        self.place = max(self.place, upto)

    def shown(self):
        table = {}
        for key, word in self.words.items():
            if word is not None:
                table[key] = word
        return table

    def last_at(self, key):
        return self.lasts.get(key, -1)
