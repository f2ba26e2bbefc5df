"""Drawing together: which letters of a row may go, and the table that letters make."""


def floor_by(front, marks):
    return min([front] + marks)


def drawn_away(row, floor, passed):
    letters = row.seen(0, floor, row.end)
    lasts = {}
    for place, key, word in letters:
        lasts[key] = place
    away = []
    for place, key, word in letters:
        is_last = lasts[key] == place
        if not is_last or (word is None and place < passed):
            away.append(place)
    return away


def table_of(letters):
    table = {}
    for place, key, word in letters:
        if word is None:
            table.pop(key, None)
        else:
            table[key] = word
    return table
