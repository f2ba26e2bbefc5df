"""What the tests of several modules need."""

from lettercell.cellar import Cellar
from lettercell.errors import CellarError


class Numbers:
    """A fixed row of numbers in the place of chance: the same ones for the same beginning."""

    def __init__(self, seed):
        self.state = seed * 2654435761 % 2 ** 32

    def below(self, many):
        self.state = (self.state * 1664525 + 1013904223) % 2 ** 32
        return (self.state >> 8) % many

    def one_of(self, things):
        return things[self.below(len(things))]

    def chance(self, many, of):
        return self.below(of) < many

    def mixed(self, things):
        left = list(things)
        mixed = []
        while left:
            mixed.append(left.pop(self.below(len(left))))
        return mixed


def refusal(kind, ask, *things, **named):
    """The fields of the refusal that the call is refused with, which has to be of just this class."""
    try:
        told = ask(*things, **named)
    except kind as caught:
        if type(caught) is not kind:
            raise AssertionError(f"{type(caught).__name__} in the place of {kind.__name__}")
        return tuple(vars(caught).values())
    raise AssertionError(f"{told!r} in the place of {kind.__name__}")


def shown(thing):
    """All that an object holds, laid open, so that two moments can be compared."""
    if isinstance(thing, dict):
        return {key: shown(value) for key, value in thing.items()}
    if isinstance(thing, (list, tuple)):
        return [shown(part) for part in thing]
    if hasattr(thing, "__dict__"):
        return {name: shown(value) for name, value in vars(thing).items()}
    return thing


SHELVES = [("posts", 2, "table"), ("news", 2, "stream"), ("logs", 1, "table")]
ROWS = {"posts": [0, 1], "news": [2, 3], "logs": [4]}
GROUPS = {"g": "posts", "h": "news", "i": "posts", "j": "logs"}
SENDERS = ["ann", "bob", "cid"]
TAKERS = ["tom", "tim", "tam", "0"]
READERS = ["r1", "r2", "r3"]
KEYS = "abcdef"


def outcome_of(cellar, name, things):
    """What a call tells, or the name and the fields of its refusal."""
    try:
        return ("ok", getattr(cellar, name)(*things))
    except CellarError as caught:
        return ("no", type(caught).__name__, tuple(vars(caught).values()))


class Driver:
    """Does mixed calls to a cellar, most of them sensible ones, by a fixed row of numbers, and keeps what came of them."""

    STEPS = ("put put put put put put put take take take take take take take answer answer answer answer answer give_back "
             "begin begin close close drop pledge pledge pass_turns enter enter leave found look look look advance attach "
             "detach draw draw cut cut read hail").split()

    def __init__(self, seed, cellar=None):
        self.numbers = Numbers(seed)
        self.cellar = Cellar(SHELVES) if cellar is None else cellar
        self.log = []
        self.lives = {}
        self.due = {}
        self.open = {}
        self.loans = []
        self.looked = {}

    def call(self, name, *things):
        outcome = outcome_of(self.cellar, name, things)
        self.log.append((name, things, outcome))
        return outcome

    def step(self):
        name = self.numbers.one_of(self.STEPS)
        getattr(self, "do_" + name)()

    def do_hail(self):
        sender = self.numbers.one_of(SENDERS)
        self.hail(sender)

    def hail(self, sender):
        life, last = self.call("hail", sender)[1]
        self.lives[sender], self.due[sender] = life, last + 1
        self.open.pop(sender, None)

    def sender(self, busy=False):
        sender = self.numbers.one_of(SENDERS)
        if busy and self.open and self.numbers.chance(7, 8):
            sender = self.numbers.one_of(sorted(self.open))
        if sender not in self.lives and self.numbers.chance(9, 10):
            self.hail(sender)
        return sender, self.lives.get(sender, 1) + (1 if self.numbers.chance(1, 30) else 0)

    def learn(self, sender, outcome):
        """A sender that is refused finds out how things stand, as a real one would."""
        if outcome[0] == "no" and outcome[1] == "Gap":
            self.due[sender] = outcome[2][0]
        if outcome[0] == "no" and outcome[1] in ("Fenced", "TooOld"):
            self.hail(sender)
        if outcome[0] == "no" and outcome[1] == "NoDeed":
            self.open.pop(sender, None)
        if outcome[0] == "no" and outcome[1] == "Busy":
            self.open[sender] = outcome[2][0]

    def do_put(self):
        sender, life = self.sender(busy=self.numbers.chance(1, 2))
        due = self.due.get(sender, 1)
        number = due
        if self.numbers.chance(1, 6):
            number = max(1, due - self.numbers.below(10))
        elif self.numbers.chance(1, 30):
            number = due + 1 + self.numbers.below(3)
        deed = self.open.get(sender, 0) if self.numbers.chance(3, 4) else 0
        if self.numbers.chance(1, 30):
            deed = self.numbers.below(9)
        word = None if self.numbers.chance(1, 4) else f"w{len(self.log)};~"
        shelf = self.numbers.one_of(list(ROWS))
        outcome = self.call("put", sender, life, number, shelf, self.numbers.one_of(KEYS), word, deed)
        if outcome[0] == "ok":
            self.due[sender] = max(due, number + 1)
        self.learn(sender, outcome)

    def do_begin(self):
        sender, life = self.sender()
        outcome = self.call("begin", sender, life, 1 + self.numbers.below(30))
        if outcome[0] == "ok":
            self.open[sender] = outcome[1]
        self.learn(sender, outcome)

    def do_pledge(self):
        sender, life = self.sender(busy=True)
        group, row, loan = self.loan()
        self.learn(sender, self.call("pledge", sender, life, group, row, loan))

    def finish(self, name):
        sender, life = self.sender(busy=True)
        outcome = self.call(name, sender, life)
        if outcome[0] == "ok":
            self.open.pop(sender, None)
        self.learn(sender, outcome)

    def do_close(self):
        self.finish("close")

    def do_drop(self):
        self.finish("drop")

    def loan(self):
        if self.loans and self.numbers.chance(9, 10):
            return self.numbers.one_of(self.loans[-3:])
        group = self.group()
        return group, self.row(group), 1 + self.numbers.below(20)

    def group(self):
        return self.numbers.one_of(list(GROUPS))

    def row(self, group=None):
        if group is not None and self.numbers.chance(9, 10):
            return self.numbers.one_of(ROWS[GROUPS[group]])
        return self.numbers.below(6)

    def do_found(self):
        group = self.group()
        numbers = self.numbers
        if numbers.chance(1, 3):
            self.call("found", group, GROUPS[group], 1 + numbers.below(9), 1 + numbers.below(3), 1 + numbers.below(3))

    def do_enter(self):
        self.call("enter", self.group(), self.numbers.one_of(TAKERS))

    def do_leave(self):
        self.call("leave", self.group(), self.numbers.one_of(TAKERS))

    def do_take(self):
        group = self.group()
        row = self.row(group)
        taker = self.numbers.one_of(TAKERS)
        if self.numbers.chance(9, 10):
            outcome = outcome_of(self.cellar, "owner_of", (group, row))
            if outcome[0] == "ok" and outcome[1] is not None:
                taker = outcome[1]
        outcome = self.call("take", group, taker, row)
        if outcome[0] == "ok" and outcome[1] is not None:
            self.loans.append((group, row, outcome[1][3]))

    def end_loan(self, name):
        loan = self.loan()
        self.call(name, *loan)
        if loan in self.loans and self.numbers.chance(5, 6):
            self.loans.remove(loan)

    def do_answer(self):
        self.end_loan("answer")

    def do_give_back(self):
        self.end_loan("give_back")

    def do_pass_turns(self):
        self.call("pass_turns", 1 + self.numbers.below(4))

    def do_attach(self):
        self.call("attach", self.numbers.one_of(READERS), self.row())

    def do_detach(self):
        if self.numbers.chance(1, 3):
            reader = self.numbers.one_of(READERS)
            self.looked.pop(reader, None)
            self.call("detach", reader)

    def do_look(self):
        reader = self.numbers.one_of(READERS)
        outcome = self.call("look", reader, 1 + self.numbers.below(4))
        if outcome[0] == "ok":
            self.looked[reader] = outcome[1][1]
            if self.numbers.chance(5, 6):
                self.advance(reader)

    def advance(self, reader):
        self.call("advance", reader, self.looked.pop(reader))

    def do_advance(self):
        reader = self.numbers.one_of(READERS)
        if reader in self.looked:
            self.advance(reader)
        else:
            self.call("advance", reader, 10 ** 6 if self.numbers.chance(1, 2) else 0)

    def do_draw(self):
        self.call("draw", self.numbers.below(6))

    def do_cut(self):
        row = self.numbers.one_of(ROWS["news"]) if self.numbers.chance(5, 6) else self.row()
        outcome = outcome_of(self.cellar, "floor_of", (row,))
        floor = outcome[1] if outcome[0] == "ok" else 0
        self.call("cut", row, max(0, floor + 1 - self.numbers.below(4)))

    def do_read(self):
        self.call("read", self.row(), self.numbers.below(8), 1 + self.numbers.below(9), self.numbers.chance(1, 2))


def answers_of(cellar, deeds=40):
    """What a cellar answers to all its questions."""
    asked = [("now", ()), ("written", ())]
    for row in range(6):
        asked.extend([("front_of", (row,)), ("floor_of", (row,)), ("drawn_of", (row,))])
        asked.extend([("read", (row, start, 1000, whole)) for start in (0, 3) for whole in (True, False)])
    for group in GROUPS:
        asked.append(("takers_of", (group,)))
        for row in range(6):
            asked.extend([(name, (group, row)) for name in ("mark_of", "owner_of", "aside_of")])
    asked.extend([("look", (reader, 1000)) for reader in READERS])
    asked.extend([("fate_of", (deed,)) for deed in range(1, deeds)])
    return [(name, things, outcome_of(cellar, name, things)) for name, things in asked]
