"""What a cellar keeps, but for its book: rows, senders, groups, deeds, readers and the turn."""

from lettercell.dealing import Dealing
from lettercell.deeds import Deeds
from lettercell.drawing import floor_by
from lettercell.front import fronts
from lettercell.lending import Lending
from lettercell.rows import Row, Shelves
from lettercell.senders import Senders
from lettercell.tables import Readers


class Group:
    def __init__(self, shelf, rows):
        self.shelf = shelf
        self.dealing = Dealing(rows)
        # By row.
        self.lendings = {}


class State:
    def __init__(self, shelves):
        self.shelves = Shelves(shelves)
        self.rows = [Row() for number in range(self.shelves.many_rows())]
        self.senders = Senders()
        self.deeds = Deeds()
        # By name.
        self.groups = {}
        self.readers = Readers()
        self.turn = 0

    def add_group(self, name, shelf, turns, tries, width):
        rows = self.shelves.rows_of(shelf)
        group = Group(shelf, rows)
        for row in rows:
            group.lendings[row] = Lending(row, self.rows[row].first, turns, tries, width)
        self.groups[name] = group

    def dealing_in(self, group):
        return self.groups[group].dealing

    def lending_in(self, group, row):
        return self.groups[group].lendings[row]

    def front_at(self, row):
        return fronts([kept.end for kept in self.rows], self.deeds.pairs())[row]

    def mark_at(self, group, row):
        return self.lending_in(group, row).mark_in(self.rows[row], self.front_at(row))

    def floor_at(self, row):
        front = self.front_at(row)
        marks = []
        for group in self.groups.values():
            if row in group.lendings:
                marks.append(group.lendings[row].mark_in(self.rows[row], front))
        return floor_by(front, marks)

    def letters_beneath(self, row, place):
        return self.rows[row].seen(0, place, self.rows[row].end)
