"""What the tests of several modules need."""


class Numbers:
    """A fixed row of numbers in the place of chance: the same ones for the same beginning."""

    def __init__(self, seed):
        self.state = seed * 2654435761 % 2 ** 32

    def below(self, many):
        self.state = (self.state * 1664525 + 1013904223) % 2 ** 32
        return (self.state >> 8) % many

    def one_of(self, things):
        return things[self.below(len(things))]

    def chance(self, many, of):
        return self.below(of) < many

    def mixed(self, things):
        left = list(things)
        mixed = []
        while left:
            mixed.append(left.pop(self.below(len(left))))
        return mixed


def refusal(kind, ask, *things, **named):
    """The fields of the refusal that the call is refused with, which has to be of just this class."""
    try:
        told = ask(*things, **named)
    except kind as caught:
        if type(caught) is not kind:
            raise AssertionError(f"{type(caught).__name__} in the place of {kind.__name__}")
        return tuple(vars(caught).values())
    raise AssertionError(f"{told!r} in the place of {kind.__name__}")


def shown(thing):
    """All that an object holds, laid open, so that two moments can be compared."""
    if isinstance(thing, dict):
        return {key: shown(value) for key, value in thing.items()}
    if isinstance(thing, (list, tuple)):
        return [shown(part) for part in thing]
    if hasattr(thing, "__dict__"):
        return {name: shown(value) for name, value in vars(thing).items()}
    return thing
