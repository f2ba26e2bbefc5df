"""Rows dealt evenly among takers, with as few of them moved as may be."""

from lettercell.errors import Doubled, NoSuch


def rows_had(rows, taker, had):
    return sorted([row for row in rows if had.get(row) == taker])


def shares(rows, takers, had):
    told = {}
    if not takers:
        return told
    least = len(rows) // len(takers)
    greater = len(rows) % len(takers)
    order = sorted(takers)
    rich = [taker for taker in order if len(rows_had(rows, taker, had)) > least]
    poor = [taker for taker in order if taker not in rich]
    for k, taker in enumerate(rich + poor):
        told[taker] = least + 1 if k < greater else least
    return told


def rows_kept(rows, taker, had, share):
    return rows_had(rows, taker, had)[:share]


def dealt(rows, takers, had):
    now = {}
    lacks = []
    share_of = shares(rows, takers, had)
    for taker in sorted(takers):
        kept = rows_kept(rows, taker, had, share_of[taker])
        for row in kept:
            now[row] = taker
        lacks.extend([taker] * (share_of[taker] - len(kept)))
    left = [row for row in sorted(rows) if row not in now]
    for k, row in enumerate(left):
        now[row] = lacks[k] if takers else None
    return now


def paper_of(rows, takers, had):
    paper = []
    share_of = shares(rows, takers, had)
    for taker in sorted(takers):
        many = len(rows_had(rows, taker, had))
        paper.append((taker, many, share_of[taker], min(many, share_of[taker])))
    return paper


def moved(had, now):
    return [(row, had.get(row), now[row]) for row in sorted(now) if had.get(row) != now[row]]


class Dealing:
    def __init__(self, rows):
        # By row; None for nobody.
        self.owners = {}
        for row in rows:
            self.owners[row] = None
        self.takers = {}

    def moves_among(self, takers):
        return moved(self.owners, dealt(list(self.owners), takers, self.owners))

    def need_away(self, taker):
        if taker in self.takers:
            raise Doubled(taker)

    def need_there(self, taker):
        if taker not in self.takers:
            raise NoSuch(taker)

    def need_row(self, row):
        if row not in self.owners:
            raise NoSuch(row)

    def moves_with(self, taker):
        self.need_away(taker)
        return self.moves_among(list(self.takers) + [taker])

    def moves_without(self, taker):
        self.need_there(taker)
        return self.moves_among([other for other in self.takers if other != taker])

    def enter(self, taker):
        self.need_away(taker)
        self.takers[taker] = True

    def leave(self, taker):
        self.need_there(taker)
        self.takers.pop(taker)

    def give(self, row, taker):
        self.need_row(row)
        self.owners[row] = taker

    def owner_at(self, row):
        self.need_row(row)
        return self.owners[row]

    def takers_now(self):
        return sorted(self.takers)

    def rows_at(self, taker):
        return rows_had(list(self.owners), taker, self.owners)
