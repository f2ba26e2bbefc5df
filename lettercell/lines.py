"""Texts joined into one and parted again, and the numbered lines with sums in which they are kept."""

from lettercell.errors import BadWord, Broken

HEAD_SIGNS = 18


def guarded(text):
    return text.replace("~", "~w").replace(";", "~s")


def unguarded(text):
    pieces = text.split("~")
    plain = [pieces[0]]
    for piece in pieces[1:]:
        if piece.startswith("w"):
            plain.append("~" + piece[1:])
        elif piece.startswith("s"):
            plain.append(";" + piece[1:])
        else:
            raise BadWord()
    return "".join(plain)


def joined(fields):
    return ";".join([guarded(field) for field in fields])


def parted(text):
    return [unguarded(piece) for piece in text.split(";")]


def sum_of(text):
    c = 0
    for sign in text:
        c = (((c << 1) & 65535) | (c >> 15)) ^ ord(sign)
    return c


def line_of(number, body):
    figures = [str(number).zfill(6), str(sum_of(body)).zfill(5), str(len(body)).zfill(4)]
    return " ".join(figures) + " " + body


def body_of(number, line):
    body = line[HEAD_SIGNS:]
    # Written anew and compared whole: so nothing that merely reads alike (a sign, a blank, a nought less) passes.
    if line != line_of(number, body):
        raise Broken(number)
    return body
