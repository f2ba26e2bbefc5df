"""The book: acts written as lines, and read back as far as they are whole."""

from lettercell.errors import Broken
from lettercell.lines import body_of, line_of


class Book:
    def __init__(self):
        self.lines = []

    def write(self, bodies):
        last = len(bodies) - 1
        for k, body in enumerate(bodies):
            sign = "." if k == last else "+"
            self.lines.append(line_of(len(self.lines), sign + body))
        return len(self.lines)

    def told(self):
        return list(self.lines)


def signed_body(number, line):
    body = body_of(number, line)
    if not body.startswith("+") and not body.startswith("."):
        raise Broken(number)
    return body


def good_bodies(lines):
    bodies = []
    for number, line in enumerate(lines):
        try:
            bodies.append(signed_body(number, line))
        except Broken:
            # Only the last line can have been cut within; any other one was spoiled later.
            if number < len(lines) - 1:
                raise Broken(number) from None
    return bodies


def acts_of(lines):
    acts = []
    act = []
    many = 0
    for number, body in enumerate(good_bodies(lines)):
        act.append(body[1:])
        if body.startswith("."):
            acts.append(act)
            act = []
            many = number + 1
    return (acts, many)


def book_of(lines):
    book = Book()
    book.lines = lines[:acts_of(lines)[1]]
    return book
