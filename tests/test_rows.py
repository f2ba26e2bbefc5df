import unittest

from lettercell.rows import Row

GREAT = 10 ** 30


def row_of(keys):
    row = Row()
    for key in keys:
        row.add(key, "word of " + key)
    return row


def values_of(row):
    return (row.first, row.end, row.drawn)


def places_of(row):
    return [place for place in range(row.end + 3) if row.at(place) is not None]


class TestAdding(unittest.TestCase):
    def test_a_row_begins_empty(self):
        row = Row()
        self.assertEqual(values_of(row), (0, 0, 0))
        self.assertEqual(row.seen(0, GREAT, GREAT), [])
        self.assertIsNone(row.at(0))

    def test_places_are_told_in_turn(self):
        row = Row()
        self.assertEqual([row.add("k", str(n)) for n in range(5)], [0, 1, 2, 3, 4])
        self.assertEqual(values_of(row), (0, 5, 0))

    def test_what_stands_at_a_place(self):
        row = Row()
        row.add("a", "one")
        row.add("b", None, 7)
        row.add("a", "", deed=10 ** 9)
        self.assertEqual(row.at(0), ("a", "one", 0))
        self.assertEqual(row.at(1), ("b", None, 7))
        self.assertEqual(row.at(2), ("a", "", 10 ** 9))
        for place in [3, 4, 10 ** 9, GREAT]:
            self.assertIsNone(row.at(place))

    def test_kinds_of_what_is_told(self):
        row = row_of("a")
        self.assertIsInstance(row.at(0), tuple)
        self.assertIsInstance(row.seen(0, 1, 1), list)
        self.assertIsInstance(row.seen(0, 1, 1)[0], tuple)
        for value in values_of(row):
            self.assertIs(type(value), int)

    def test_arguments_by_name(self):
        row = Row()
        self.assertEqual(row.add(key="a", word="b"), 0)
        self.assertEqual(row.add(key="a", word=None, deed=4), 1)
        self.assertEqual(row.at(place=1), ("a", None, 4))
        self.assertEqual(row.seen(start=0, limit=1, most=5), [(0, "a", "b")])
        self.assertIs(row.take_out(place=0), True)
        self.assertEqual(row.cut_to(place=2), [1])
        self.assertIsNone(row.raise_drawn(place=6))
        self.assertEqual(values_of(row), (2, 2, 6))


class TestSeen(unittest.TestCase):
    def setUp(self):
        self.row = row_of("abcdef")
        self.row.take_out(1)
        self.row.take_out(4)

    def seen(self, start, limit, most):
        letters = self.row.seen(start, limit, most)
        for place, key, word in letters:
            self.assertEqual(self.row.at(place), (key, word, 0))
        return [letter[0] for letter in letters]

    def test_letters_are_told_with_place_key_and_word(self):
        row = Row()
        row.add("a", "one", 3)
        row.add("b", None)
        row.add("a", "")
        self.assertEqual(row.seen(0, 3, 10), [(0, "a", "one"), (1, "b", None), (2, "a", "")])

    def test_from_a_start_and_beneath_a_limit(self):
        for start in range(9):
            for limit in range(9):
                with self.subTest(start=start, limit=limit):
                    told = [place for place in [0, 2, 3, 5] if start <= place < limit]
                    self.assertEqual(self.seen(start, limit, 100), told)

    def test_at_most_so_many(self):
        for most in range(7):
            self.assertEqual(self.seen(0, 6, most), [0, 2, 3, 5][:most])
            self.assertEqual(self.seen(1, 6, most), [2, 3, 5][:most])

    def test_nought(self):
        self.assertEqual(self.seen(0, 6, 0), [])
        self.assertEqual(self.seen(0, 0, 6), [])
        self.assertEqual(self.seen(0, 0, 0), [])
        self.assertEqual(self.seen(0, GREAT, 0), [])

    def test_very_great_ones(self):
        self.assertEqual(self.seen(0, GREAT, GREAT), [0, 2, 3, 5])
        self.assertEqual(self.seen(3, GREAT, 1), [3])
        self.assertEqual(self.seen(GREAT, GREAT + 9, GREAT), [])
        self.assertEqual(self.seen(GREAT, 3, GREAT), [])

    def test_from_beneath_the_first(self):
        self.row.cut_to(3)
        self.assertEqual(self.seen(0, GREAT, GREAT), [3, 5])
        self.assertEqual(self.seen(2, 6, 1), [3])
        self.assertEqual(self.seen(0, 3, 9), [])

    def test_asking_changes_nothing(self):
        before = values_of(self.row)
        self.row.seen(0, GREAT, GREAT)
        self.row.at(0)
        self.row.at(1)
        self.assertEqual(values_of(self.row), before)
        self.assertEqual(places_of(self.row), [0, 2, 3, 5])


class TestTakingOut(unittest.TestCase):
    def test_true_where_a_letter_stood(self):
        row = row_of("abc")
        self.assertIs(row.take_out(1), True)
        self.assertIs(row.take_out(1), False)
        self.assertEqual(places_of(row), [0, 2])
        self.assertEqual(values_of(row), (0, 3, 0))

    def test_a_stone_is_a_letter_too(self):
        row = Row()
        row.add("a", None)
        self.assertIs(row.take_out(0), True)
        self.assertIsNone(row.at(0))

    def test_where_nothing_stands(self):
        row = row_of("abcd")
        row.cut_to(2)
        for place in [0, 1, 4, 5, 10 ** 9, GREAT]:
            self.assertIs(row.take_out(place), False)
        self.assertEqual(places_of(row), [2, 3])
        self.assertEqual(values_of(row), (2, 4, 0))

    def test_a_place_stays_empty_for_ever(self):
        row = row_of("abc")
        for place in [2, 0, 1]:
            self.assertIs(row.take_out(place), True)
        self.assertEqual(values_of(row), (0, 3, 0))
        self.assertEqual(row.add("d", "new"), 3)
        self.assertEqual(places_of(row), [3])
        self.assertEqual(row.seen(0, GREAT, GREAT), [(3, "d", "new")])

    def test_the_first_does_not_move(self):
        row = row_of("ab")
        row.take_out(0)
        self.assertEqual(values_of(row), (0, 2, 0))
        row.take_out(1)
        self.assertEqual(values_of(row), (0, 2, 0))


class TestCutting(unittest.TestCase):
    def test_cut_to_a_place(self):
        for place in range(6):
            row = row_of("abcde")
            self.assertEqual(row.cut_to(place), list(range(place)))
            self.assertEqual(values_of(row), (place, 5, 0))
            self.assertEqual(places_of(row), list(range(place, 5)))

    def test_above_the_end_counts_as_the_end(self):
        for place in [3, 4, 5, 10 ** 9, GREAT]:
            row = row_of("abc")
            self.assertEqual(row.cut_to(place), [0, 1, 2])
            self.assertEqual(values_of(row), (3, 3, 0))
            self.assertEqual(row.add("d", "new"), 3)
            self.assertEqual(row.at(3), ("d", "new", 0))

    def test_not_above_the_first_changes_nothing(self):
        row = row_of("abcde")
        row.cut_to(3)
        for place in [3, 2, 1, 0]:
            self.assertEqual(row.cut_to(place), [])
            self.assertEqual(values_of(row), (3, 5, 0))
            self.assertEqual(places_of(row), [3, 4])

    def test_only_letters_that_stood_are_told(self):
        row = row_of("abcdef")
        row.take_out(1)
        row.take_out(3)
        self.assertEqual(row.cut_to(4), [0, 2])
        self.assertEqual(row.cut_to(5), [4])
        self.assertEqual(values_of(row), (5, 6, 0))

    def test_the_first_goes_on_where_nothing_stood(self):
        row = row_of("abc")
        row.take_out(0)
        row.take_out(1)
        self.assertEqual(row.cut_to(2), [])
        self.assertEqual(values_of(row), (2, 3, 0))

    def test_an_empty_row(self):
        row = Row()
        for place in [0, 1, GREAT]:
            self.assertEqual(row.cut_to(place), [])
            self.assertEqual(values_of(row), (0, 0, 0))

    def test_stones_are_cut_too(self):
        row = Row()
        row.add("a", None)
        row.add("b", "")
        self.assertEqual(row.cut_to(2), [0, 1])


class TestDrawn(unittest.TestCase):
    def test_it_is_only_raised(self):
        row = row_of("abc")
        for place, drawn in [(0, 0), (2, 2), (1, 2), (2, 2), (0, 2), (3, 3), (10 ** 9, 10 ** 9), (5, 10 ** 9)]:
            self.assertIsNone(row.raise_drawn(place))
            self.assertEqual(values_of(row), (0, 3, drawn))
            self.assertEqual(places_of(row), [0, 1, 2])

    def test_nothing_else_changes_it(self):
        row = row_of("abc")
        row.raise_drawn(2)
        row.add("d", "new")
        row.take_out(0)
        row.cut_to(4)
        self.assertEqual(values_of(row), (4, 4, 2))

    def test_beyond_the_end_letters_still_come(self):
        row = Row()
        row.raise_drawn(50)
        self.assertEqual(row.add("a", "b"), 0)
        self.assertEqual(row.cut_to(50), [0])
        self.assertEqual(values_of(row), (1, 1, 50))


class TestOwn(unittest.TestCase):
    def test_lists_told_are_the_askers_own(self):
        row = row_of("abcd")
        seen = row.seen(0, 4, 4)
        seen.clear()
        self.assertEqual(len(row.seen(0, 4, 4)), 4)
        other = row.seen(0, 4, 4)
        row.take_out(0)
        self.assertEqual(len(other), 4)
        gone = row.cut_to(3)
        gone.append(3)
        self.assertEqual(gone, [1, 2, 3])
        self.assertEqual(places_of(row), [3])
        self.assertEqual(row.cut_to(4), [3])
        self.assertEqual(gone, [1, 2, 3])

    def test_empty_lists_are_the_askers_own(self):
        row = Row()
        row.seen(0, 9, 9).append("mine")
        row.cut_to(9).append("mine")
        self.assertEqual(row.seen(0, 9, 9), [])
        self.assertEqual(row.cut_to(9), [])
        self.assertEqual(Row().seen(0, 9, 9), [])

    def test_two_rows_share_nothing(self):
        one = Row()
        other = Row()
        one.add("a", "b")
        one.add("a", "c")
        one.cut_to(1)
        one.raise_drawn(1)
        self.assertEqual(values_of(other), (0, 0, 0))
        self.assertIsNone(other.at(1))
        self.assertEqual(other.add("x", "y"), 0)
        self.assertEqual(one.at(0), None)
        self.assertEqual(values_of(one), (1, 2, 1))

    def test_a_thousand_letters(self):
        row = Row()
        for n in range(1000):
            self.assertEqual(row.add(f"k{n}", str(n)), n)
        for n in range(0, 1000, 2):
            row.take_out(n)
        self.assertEqual([letter[0] for letter in row.seen(0, 1000, 1000)], list(range(1, 1000, 2)))
        self.assertEqual(row.cut_to(999), list(range(1, 999, 2)))
        self.assertEqual(row.seen(0, 1000, 1000), [(999, "k999", "999")])
