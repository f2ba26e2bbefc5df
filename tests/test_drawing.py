import unittest

from helper import Numbers
from lettercell.drawing import drawn_away, floor_by, table_of
from lettercell.rows import Row


def row_of(letters):
    """Each letter as a key and a sign: a capital key is a stone of the small one."""
    row = Row()
    for place, sign in enumerate(letters):
        row.add(sign.lower(), None if sign.isupper() else f"{sign}{place}")
    return row


def standing(row):
    return [letter[0] for letter in row.seen(0, row.end, row.end)]


class TestFloor(unittest.TestCase):
    def test_no_mark_and_many(self):
        self.assertEqual(floor_by(5, []), 5)
        self.assertEqual(floor_by(5, [7]), 5)
        self.assertEqual(floor_by(5, [5]), 5)
        self.assertEqual(floor_by(5, [3]), 3)
        self.assertEqual(floor_by(5, [9, 4, 2, 8]), 2)
        self.assertEqual(floor_by(0, [9, 4, 2, 8]), 0)
        self.assertEqual(floor_by(front=10 ** 9, marks=[0]), 0)

    def test_the_list_stays(self):
        marks = [4, 2]
        floor_by(1, marks)
        self.assertEqual(marks, [4, 2])


class TestDrawnAway(unittest.TestCase):
    def test_keys_doubled(self):
        row = row_of("abacab")
        self.assertEqual(drawn_away(row, 6, 0), [0, 1, 2])
        self.assertEqual(drawn_away(row, 5, 0), [0, 2])
        self.assertEqual(drawn_away(row, 4, 0), [0])
        self.assertEqual(drawn_away(row, 3, 0), [0])
        self.assertEqual(drawn_away(row, 2, 0), [])
        self.assertEqual(drawn_away(row, 0, 0), [])

    def test_a_floor_above_the_end(self):
        row = row_of("aab")
        for floor in [3, 4, 10 ** 9]:
            self.assertEqual(drawn_away(row, floor, 0), [0])

    def test_stones_beneath_at_and_above_the_passed_place(self):
        row = row_of("aAbcC")
        self.assertEqual(drawn_away(row, 5, 0), [0, 3])
        self.assertEqual(drawn_away(row, 5, 1), [0, 3])
        self.assertEqual(drawn_away(row, 5, 2), [0, 1, 3])
        self.assertEqual(drawn_away(row, 5, 4), [0, 1, 3])
        self.assertEqual(drawn_away(row, 5, 5), [0, 1, 3, 4])
        self.assertEqual(drawn_away(row, 5, 10 ** 9), [0, 1, 3, 4])
        self.assertEqual(drawn_away(row, 2, 10 ** 9), [0, 1])
        self.assertEqual(drawn_away(row, 1, 10 ** 9), [])

    def test_a_stone_that_is_followed_goes_whatever_was_passed(self):
        row = row_of("Aa")
        self.assertEqual(drawn_away(row, 2, 0), [0])
        self.assertEqual(drawn_away(row, 1, 0), [])
        self.assertEqual(drawn_away(row, 1, 1), [0])
        self.assertEqual(drawn_away(row_of("AA"), 2, 0), [0])
        self.assertEqual(drawn_away(row_of("AA"), 2, 2), [0, 1])

    def test_a_letter_that_is_no_stone_stays_whatever_was_passed(self):
        self.assertEqual(drawn_away(row_of("abc"), 3, 3), [])
        row = Row()
        row.add("a", "")
        self.assertEqual(drawn_away(row, 1, 1), [])

    def test_letters_that_do_not_stand_count_for_nothing(self):
        row = row_of("aaa")
        row.take_out(2)
        self.assertEqual(drawn_away(row, 3, 0), [0])
        row.take_out(1)
        self.assertEqual(drawn_away(row, 3, 0), [])

    def test_how_far_it_was_drawn_does_not_matter(self):
        row = row_of("aab")
        row.raise_drawn(3)
        self.assertEqual(drawn_away(row, 3, 0), [0])

    def test_in_a_row_that_was_cut(self):
        row = row_of("aaab")
        row.cut_to(1)
        self.assertEqual(drawn_away(row, 4, 0), [1])

    def test_telling_takes_nothing_away(self):
        row = row_of("aAbab")
        for n in range(2):
            self.assertEqual(drawn_away(row, 5, 5), [0, 1, 2])
        self.assertEqual(standing(row), [0, 1, 2, 3, 4])
        self.assertEqual((row.first, row.end, row.drawn), (0, 5, 0))
        drawn_away(row, 5, 5).clear()
        self.assertEqual(drawn_away(row=row, floor=5, passed=5), [0, 1, 2])

    def test_against_the_words_of_the_point(self):
        numbers = Numbers(8)
        for n in range(500):
            row = row_of([numbers.one_of("abcABC") for k in range(numbers.below(9))])
            for place in range(row.end):
                if numbers.chance(1, 6):
                    row.take_out(place)
            floor, passed = numbers.below(11), numbers.below(11)
            stand = [letter for letter in row.seen(0, row.end, row.end) if letter[0] < floor]
            gone = []
            for place, key, word in stand:
                behind = [other for other in stand if other[0] > place and other[1] == key]
                if behind or word is None and place < passed:
                    gone.append(place)
            self.assertEqual(drawn_away(row, floor, passed), gone)


class TestTable(unittest.TestCase):
    def test_tables_with_stones(self):
        self.assertEqual(table_of([]), {})
        self.assertEqual(table_of([(0, "a", "x"), (3, "b", ""), (4, "a", "y")]), {"a": "y", "b": ""})
        self.assertEqual(table_of([(0, "a", "x"), (1, "a", None)]), {})
        self.assertEqual(table_of([(0, "a", None), (1, "a", "x")]), {"a": "x"})
        self.assertEqual(table_of([(0, "a", None), (5, "b", None), (6, "c", "z")]), {"c": "z"})

    def test_what_is_handed_in_stays(self):
        letters = [(0, "a", "x"), (1, "a", None), (2, "b", "y")]
        told = table_of(letters=letters)
        told["z"] = "z"
        self.assertEqual(letters, [(0, "a", "x"), (1, "a", None), (2, "b", "y")])
        self.assertEqual(table_of(letters), {"b": "y"})


class TestDrawnAgain(unittest.TestCase):
    def test_drawn_twice_nothing_goes_the_second_time(self):
        numbers = Numbers(9)
        for n in range(300):
            row = row_of([numbers.one_of("abcABC") for k in range(numbers.below(12))])
            floor, passed = numbers.below(14), numbers.below(14)
            for place in drawn_away(row, floor, passed):
                self.assertTrue(row.take_out(place))
            self.assertEqual(drawn_away(row, floor, passed), [])

    def test_the_table_is_that_of_all_letters_that_ever_came(self):
        numbers = Numbers(10)
        for n in range(150):
            row, ever, top = Row(), [], 0
            for step in range(30):
                if numbers.chance(2, 3):
                    key, word = numbers.one_of("abc"), numbers.one_of([None, f"w{step}"])
                    ever.append((row.add(key, word), key, word))
                else:
                    floor = numbers.below(row.end + 2)
                    for place in drawn_away(row, floor, numbers.below(row.end + 2)):
                        row.take_out(place)
                    top = max(top, floor)
                for place in range(top, row.end + 2):
                    all_beneath = [letter for letter in ever if letter[0] < place]
                    self.assertEqual(table_of(row.seen(0, place, 999)), table_of(all_beneath))
