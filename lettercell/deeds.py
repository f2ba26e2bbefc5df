"""Deeds: their senders, ends, fates, spots and pledges."""

from lettercell.errors import Busy, NoDeed, NoSuch, Twice


class Deed:
    def __init__(self, sender, ends):
        self.sender = sender
        self.ends = ends
        self.fate = "open"
        self.spots = []
        self.pledges = []


class Deeds:
    def __init__(self):
        # The deed of number n stands at n - 1.
        self.deeds = []
        # By sender, the number of its deed that is not finished.
        self.busy = {}

    def need_free(self, sender):
        if sender in self.busy:
            raise Busy(self.busy[sender])

    def next_number(self):
        return len(self.deeds) + 1

    def begin(self, sender, ends):
        self.need_free(sender)
        number = self.next_number()
        self.deeds.append(Deed(sender, ends))
        self.busy[sender] = number
        return number

    def open_of(self, sender):
        return self.busy.get(sender, 0)

    def need_open(self, sender):
        if sender not in self.busy:
            raise NoDeed(sender)
        return self.busy[sender]

    def numbered(self, number):
        if number < 1 or number > len(self.deeds):
            raise NoSuch(number)
        return self.deeds[number - 1]

    def hold(self, number, row, place):
        self.numbered(number).spots.append((row, place))

    def need_unpledged(self, number, group, row, loan):
        if (group, row, loan) in self.numbered(number).pledges:
            raise Twice(row, loan)

    def pledge(self, number, group, row, loan):
        self.need_unpledged(number, group, row, loan)
        self.numbered(number).pledges.append((group, row, loan))

    def finish(self, number, fate):
        deed = self.numbered(number)
        deed.fate = fate
        if self.open_of(deed.sender) == number:
            self.busy.pop(deed.sender)

    def overdue(self, turn):
        numbers = []
        for number, deed in enumerate(self.deeds, start=1):
            if deed.fate == "open" and deed.ends <= turn:
                numbers.append(number)
        return numbers

    def fate_of(self, number):
        return self.numbered(number).fate

    def sender_of(self, number):
        return self.numbered(number).sender

    def spots_of(self, number):
        return list(self.numbered(number).spots)

    def pledges_of(self, number):
        return list(self.numbered(number).pledges)

    def pairs(self):
        return [(deed.fate, list(deed.spots)) for deed in self.deeds]
