"""A lending: what one group keeps about one row, its loans, tries and fates."""

from lettercell.errors import Late


class Lending:
    def __init__(self, row, start, turns, tries, width=1):
        self.row = row
        self.start = start
        self.turns = turns
        self.tries = tries
        self.width = width
        self.lent = 0
        # Each by place; a loan is (number, taker, end).
        self.fates = {}
        self.tried = {}
        self.loans = {}

    def lend(self, place, taker, turn):
        self.lent = self.lent + 1
        self.loans[place] = (self.lent, taker, turn + self.turns)
        self.tried[place] = self.tried_at(place) + 1
        return self.lent

    def next_loan(self):
        return self.lent + 1

    def settle(self, place):
        self.give_back(place)
        self.fates[place] = "answered"

    def set_aside(self, place):
        self.give_back(place)
        self.fates[place] = "aside"

    def give_back(self, place):
        self.loans.pop(place, None)

    def let_go(self, taker):
        for place in list(self.loans):
            if self.loans[place][1] == taker:
                self.give_back(place)

    def call_back(self):
        for place in list(self.loans):
            loan = self.loans[place]
            self.loans[place] = (0, loan[1], loan[2])

    def place_of(self, loan, turn):
        for place, standing in self.loans.items():
            # A loan that was called back has the number 0, which is none to ask for.
            if standing[0] == loan and loan >= 1 and turn < standing[2]:
                return place
        raise Late(self.row, loan)

    def loan_at(self, place):
        return self.loans.get(place)

    def tried_at(self, place):
        return self.tried.get(place, 0)

    def fate_at(self, place):
        return self.fates.get(place)

    def asides(self):
        return sorted([place for place, fate in self.fates.items() if fate == "aside"])

    def places_without_fate(self, row, front):
        places = [letter[0] for letter in row.seen(self.start, front, row.end)]
        return [place for place in places if self.fate_at(place) is None]

    def mark_in(self, row, front):
        left = self.places_without_fate(row, front)
        return left[0] if left else max(front, self.start)

    def is_lent(self, place, turn):
        loan = self.loan_at(place)
        return loan is not None and turn < loan[2]

    def due_in(self, row, front, turn):
        lent = [place for place in self.loans if self.is_lent(place, turn)]
        if len(lent) >= self.width:
            return ([], None)
        asides = []
        for place in self.places_without_fate(row, front):
            if self.is_lent(place, turn):
                continue
            if self.tried_at(place) < self.tries:
                return (asides, place)
            asides.append(place)
        return (asides, None)
