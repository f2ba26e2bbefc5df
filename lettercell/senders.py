"""Senders: their lives, and the spots of the last letters that each of them put."""

from lettercell.errors import Fenced, Gap, NoSuch, TooOld

SPOTS_KEPT = 8


class Senders:
    def __init__(self):
        self.lives = {}
        self.lasts = {}
        # By name, the spots of the last numbers noted, the last one's at the end.
        self.spots = {}

    def hail(self, name):
        life = self.life_of(name) + 1
        self.lives[name] = life
        if life == 1:
            self.lasts[name] = 0
            self.spots[name] = []
        return (life, self.lasts[name])

    def need(self, name):
        if name not in self.lives:
            raise NoSuch(name)

    def allow(self, name, life):
        self.need(name)
        if life != self.lives[name]:
            raise Fenced(self.lives[name])

    def spot_of(self, name, number):
        self.need(name)
        due = self.lasts[name] + 1
        if number > due:
            raise Gap(due)
        if number == due:
            return None
        kept = self.spots[name]
        oldest = due - len(kept)
        if number < oldest:
            raise TooOld(number)
        return kept[number - oldest]

    def note(self, name, number, row, place):
        self.need(name)
        due = self.lasts[name] + 1
        if number > due:
            raise Gap(due)
        if number < due:
            raise TooOld(number)
        self.lasts[name] = number
        self.spots[name] = (self.spots[name] + [(row, place)])[-SPOTS_KEPT:]

    def life_of(self, name):
        return self.lives.get(name, 0)

    def last_of(self, name):
        return self.lasts.get(name, 0)
