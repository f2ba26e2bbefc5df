"""Fronts: how far rows may be read so that each deed is seen whole or not at all."""


def is_beneath(ends, spot):
    return spot[1] < ends[spot[0]]


def row_not_beneath(ends, spots):
    for spot in spots:
        if not is_beneath(ends, spot):
            return spot[0]
    return None


def lower(ends, paper, deed, spots, other):
    for spot in spots:
        # Asked anew for each one: a lowering may have left others of the same row not beneath.
        if is_beneath(ends, spot):
            ends[spot[0]] = spot[1]
            paper.append((spot[0], spot[1], deed, other))


def lower_once(ends, paper, pairs):
    for number, pair in enumerate(pairs, start=1):
        if pair[0] == "open":
            lower(ends, paper, number, pair[1], None)
        elif pair[0] == "closed":
            other = row_not_beneath(ends, pair[1])
            if other is not None:
                lower(ends, paper, number, pair[1], other)


def lowered(ends, paper, pairs):
    # Each lowering is forced in every sound list, so where none is left to do, the ends are the greatest sound list.
    now = list(ends)
    many = -1
    while many < len(paper):
        many = len(paper)
        lower_once(now, paper, pairs)
    return now


def fronts(ends, pairs):
    return lowered(ends, [], pairs)


def paper_of_fronts(ends, pairs):
    paper = []
    lowered(ends, paper, pairs)
    return paper
