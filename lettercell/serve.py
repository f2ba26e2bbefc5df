"""Serving: a taker's letters taken round by round, handed to a work, and answered as it says."""

from lettercell.asks import LETTERS_MOST, check_names, check_wholes
from lettercell.errors import Late, NoSuch


def done_by(cellar, group, row, loan, verdict):
    try:
        if verdict is True:
            cellar.answer(group, row, loan)
            return "answered"
        if verdict is False:
            cellar.give_back(group, row, loan)
            return "back"
    except Late:
        return "late"
    return "kept"


def serve_row(cellar, group, taker, row, work):
    # The work may have called the cellar, so whose the row is now is asked at its turn.
    if cellar.owner_of(group, row) != taker:
        return []
    letter = cellar.take(group, taker, row)
    if letter is None:
        return []
    verdict = work(row, letter[0], letter[1], letter[2])
    return [(row, letter[0], done_by(cellar, group, row, letter[3], verdict))]


def serve_round(cellar, group, taker, work, most):
    served = []
    for row in cellar.rows_dealt(group, taker):
        if len(served) < most:
            served.extend(serve_row(cellar, group, taker, row, work))
    return served


def serve(cellar, group, taker, work, most=20):
    check_names([group, taker])
    check_wholes([(most, 1, LETTERS_MOST)])
    if taker not in cellar.takers_of(group):
        raise NoSuch(taker)
    served = serve_round(cellar, group, taker, work, most)
    told = list(served)
    while served and len(told) < most:
        served = serve_round(cellar, group, taker, work, most - len(told))
        told.extend(served)
    return told
