"""The forms of names, keys, words and whole numbers, and the row that a key has."""

NAME_SIGNS = "abcdefghijklmnopqrstuvwxyz0123456789"
NAME_MOST = 12
KEY_MOST = 24
WORD_MOST = 200
# The sign itself may not stand in a text of this package, so its number stands for it.
PER_CENT = 37


def is_text(thing, least, most):
    return isinstance(thing, str) and least <= len(thing) <= most


def is_sign(sign):
    return " " <= sign <= "~" and ord(sign) != PER_CENT


def is_name(thing):
    return is_text(thing, 1, NAME_MOST) and all([sign in NAME_SIGNS for sign in thing])


def is_key(thing):
    return is_text(thing, 1, KEY_MOST) and all([is_sign(sign) for sign in thing])


def is_word(thing):
    if thing is None:
        return True
    return is_text(thing, 0, WORD_MOST) and all([is_sign(sign) for sign in thing])


def is_whole(thing, low, high):
    # A truth is an int to Python, but no whole number here.
    return isinstance(thing, int) and not isinstance(thing, bool) and low <= thing <= high


def spread(key):
    h = 1
    for sign in key:
        h = (h * 37 + ord(sign)) & 65535
    return h ^ (h >> 8)


def row_in(key, many):
    return spread(key) % many
