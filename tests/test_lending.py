import unittest

from helper import Numbers, refusal
from lettercell.errors import Late
from lettercell.lending import Lending
from lettercell.rows import Row


def row_of(many, out=()):
    row = Row()
    for k in range(many):
        row.add("key", None if k % 3 == 2 else "word")
    for place in out:
        row.take_out(place)
    return row


def shown(row):
    return (row.first, row.end, row.drawn, [row.at(place) for place in range(row.end)])


class TestLoans(unittest.TestCase):
    def test_a_lending_begins_without_loans_and_fates(self):
        lending = Lending(3, 0, 5, 2)
        self.assertEqual(lending.next_loan(), 1)
        for place in [0, 1, 10 ** 9]:
            self.assertIsNone(lending.loan_at(place))
            self.assertIsNone(lending.fate_at(place))
            self.assertEqual(lending.tried_at(place), 0)

    def test_loans_are_numbered_in_turn(self):
        lending = Lending(0, 0, 5, 9, 9)
        self.assertEqual([lending.lend(place, "t", 0) for place in [4, 0, 7, 2]], [1, 2, 3, 4])
        self.assertEqual(lending.next_loan(), 5)
        lending.settle(4)
        lending.give_back(0)
        lending.let_go("t")
        lending.call_back()
        self.assertEqual(lending.next_loan(), 5)
        self.assertEqual(lending.lend(0, "t", 3), 5)

    def test_telling_the_next_number_changes_nothing(self):
        lending = Lending(0, 0, 5, 9)
        for n in range(3):
            self.assertEqual(lending.next_loan(), 1)
        self.assertEqual(lending.lend(0, "t", 0), 1)

    def test_what_a_loan_has(self):
        lending = Lending(0, 0, 5, 9)
        lending.lend(3, "tom", 7)
        self.assertEqual(lending.loan_at(3), (1, "tom", 12))
        self.assertIs(type(lending.loan_at(3)), tuple)
        self.assertEqual(lending.tried_at(3), 1)
        self.assertEqual(lending.place_of(1, 7), 3)

    def test_over_at_its_end_and_not_ahead(self):
        for turns in [1, 2, 1000]:
            lending = Lending(6, 0, turns, 9)
            lending.lend(3, "tom", 10)
            for turn in [0, 10, 10 + turns - 1]:
                self.assertEqual(lending.place_of(1, turn), 3)
            for turn in [10 + turns, 11 + turns, 10 ** 9]:
                self.assertEqual(refusal(Late, lending.place_of, 1, turn), (6, 1))
            # A loan that is over still stands, and turns may go back.
            self.assertEqual(lending.loan_at(3), (1, "tom", 10 + turns))
            self.assertEqual(lending.place_of(1, 10), 3)

    def test_lending_in_the_stead_of_a_loan_that_is_over(self):
        lending = Lending(6, 0, 5, 9)
        lending.lend(3, "tom", 0)
        self.assertEqual(lending.lend(3, "ann", 5), 2)
        self.assertEqual(lending.loan_at(3), (2, "ann", 10))
        self.assertEqual(lending.tried_at(3), 2)
        self.assertEqual(refusal(Late, lending.place_of, 1, 0), (6, 1))
        self.assertEqual(lending.place_of(2, 9), 3)

    def test_answered_aside_and_given_back(self):
        for change, fate in [("settle", "answered"), ("set_aside", "aside"), ("give_back", None)]:
            lending = Lending(6, 0, 5, 9, 3)
            lending.lend(3, "tom", 0)
            lending.lend(4, "tom", 0)
            self.assertIsNone(getattr(lending, change)(3))
            self.assertIsNone(lending.loan_at(3))
            self.assertEqual(lending.fate_at(3), fate)
            self.assertEqual(lending.tried_at(3), 1)
            self.assertEqual(refusal(Late, lending.place_of, 1, 0), (6, 1))
            self.assertEqual(lending.loan_at(4), (2, "tom", 5))
            self.assertIsNone(lending.fate_at(4))

    def test_where_no_loan_stands(self):
        for change, fate in [("settle", "answered"), ("set_aside", "aside"), ("give_back", None)]:
            lending = Lending(6, 0, 5, 9)
            self.assertIsNone(getattr(lending, change)(8))
            self.assertEqual(lending.fate_at(8), fate)
            self.assertEqual(lending.tried_at(8), 0)
            self.assertIsNone(lending.loan_at(8))

    def test_a_taker_let_go(self):
        lending = Lending(6, 0, 5, 9, 9)
        lending.lend(1, "tom", 0)
        lending.lend(2, "ann", 0)
        lending.lend(3, "tom", 0)
        lending.call_back()
        lending.lend(4, "tom", 0)
        lending.lend(5, "ann", 0)
        self.assertIsNone(lending.let_go("tom"))
        self.assertEqual([lending.loan_at(place) for place in range(6)],
                         [None, None, (0, "ann", 5), None, None, (5, "ann", 5)])
        self.assertEqual([lending.tried_at(place) for place in range(6)], [0, 1, 1, 1, 1, 1])
        self.assertIsNone(lending.let_go("nobody"))
        self.assertEqual(lending.loan_at(5), (5, "ann", 5))
        self.assertIsNone(lending.fate_at(1))

    def test_loans_called_back(self):
        lending = Lending(6, 0, 5, 9, 9)
        lending.lend(1, "tom", 0)
        lending.lend(2, "ann", 3)
        self.assertIsNone(lending.call_back())
        self.assertEqual(lending.loan_at(1), (0, "tom", 5))
        self.assertEqual(lending.loan_at(2), (0, "ann", 8))
        self.assertEqual(lending.tried_at(1), 1)
        for loan in [0, 1, 2]:
            self.assertEqual(refusal(Late, lending.place_of, loan, 0), (6, loan))
        self.assertEqual(lending.lend(3, "ann", 4), 3)
        self.assertEqual(lending.place_of(3, 4), 3)
        lending.call_back()
        self.assertEqual(lending.loan_at(1), (0, "tom", 5))
        self.assertEqual(lending.loan_at(3), (0, "ann", 9))

    def test_late(self):
        lending = Lending(6, 0, 5, 9, 9)
        lending.lend(0, "tom", 0)
        for loan in [0, -1, -5, 2, 3, 10 ** 9]:
            self.assertEqual(refusal(Late, lending.place_of, loan, 0), (6, loan))
        self.assertEqual(lending.place_of(1, 0), 0)
        lending.give_back(0)
        self.assertEqual(refusal(Late, lending.place_of, 1, 0), (6, 1))

    def test_arguments_by_name_and_default_width(self):
        lending = Lending(row=2, start=0, turns=5, tries=1)
        self.assertEqual(lending.due_in(row=row_of(2), front=2, turn=0), ([], 0))
        self.assertEqual(lending.lend(place=0, taker="t", turn=0), 1)
        self.assertEqual(lending.due_in(row_of(2), 2, 0), ([], None))
        self.assertEqual(lending.place_of(loan=1, turn=0), 0)
        self.assertEqual(lending.loan_at(place=0), (1, "t", 5))
        lending.settle(place=0)
        lending.set_aside(place=1)
        lending.give_back(place=2)
        lending.let_go(taker="t")
        self.assertEqual((lending.fate_at(place=0), lending.tried_at(place=0)), ("answered", 1))
        self.assertEqual(lending.mark_in(row=row_of(2), front=2), 2)
        self.assertEqual(Lending(0, 0, 5, 1, width=2).next_loan(), 1)

    def test_two_objects_share_nothing(self):
        one = Lending(0, 0, 5, 9)
        one.lend(0, "t", 0)
        one.settle(1)
        other = Lending(0, 0, 5, 9)
        self.assertEqual((other.next_loan(), other.loan_at(0), other.fate_at(1), other.tried_at(0)), (1, None, None, 0))


class TestMark(unittest.TestCase):
    def test_the_lowest_place_without_a_fate(self):
        row = row_of(6)
        lending = Lending(0, 0, 5, 9)
        self.assertEqual(lending.mark_in(row, 6), 0)
        lending.settle(0)
        self.assertEqual(lending.mark_in(row, 6), 1)
        lending.settle(2)
        self.assertEqual(lending.mark_in(row, 6), 1)
        lending.set_aside(1)
        self.assertEqual(lending.mark_in(row, 6), 3)

    def test_a_stone_is_a_letter(self):
        row = row_of(3)
        self.assertIsNone(row.at(2)[1])
        lending = Lending(0, 2, 5, 9)
        self.assertEqual(lending.mark_in(row, 3), 2)

    def test_places_where_nothing_stands(self):
        row = row_of(6, out=[0, 1, 4])
        lending = Lending(0, 0, 5, 9)
        self.assertEqual(lending.mark_in(row, 6), 2)
        lending.settle(2)
        lending.settle(3)
        self.assertEqual(lending.mark_in(row, 6), 5)
        self.assertEqual(lending.mark_in(row, 5), 5)
        self.assertEqual(lending.mark_in(row, 4), 4)
        self.assertEqual(lending.mark_in(row, 2), 2)
        self.assertEqual(lending.mark_in(row, 1), 1)
        self.assertEqual(lending.mark_in(row, 0), 0)

    def test_fronts_beneath_and_above_the_start(self):
        row = row_of(6)
        for start in range(9):
            lending = Lending(0, start, 5, 9)
            for front in [0, 1, 2, 3, 4, 5, 6, 7, 10 ** 9]:
                wanted = start if start < min(front, 6) else max(front, start)
                self.assertEqual(lending.mark_in(row, front), wanted)

    def test_loans_do_not_matter(self):
        row = row_of(3)
        lending = Lending(0, 0, 5, 9, 9)
        lending.lend(0, "t", 0)
        self.assertEqual(lending.mark_in(row, 3), 0)
        lending.settle(0)
        lending.lend(1, "t", 0)
        lending.call_back()
        self.assertEqual(lending.mark_in(row, 3), 1)

    def test_all_settled(self):
        row = row_of(3)
        lending = Lending(0, 0, 5, 9)
        for place in range(3):
            lending.settle(place)
        for front in [0, 1, 2, 3, 4, 100]:
            self.assertEqual(lending.mark_in(row, front), front)

    def test_in_a_row_that_was_cut(self):
        row = row_of(6)
        row.cut_to(4)
        self.assertEqual(Lending(0, 0, 5, 9).mark_in(row, 6), 4)
        self.assertEqual(Lending(0, 0, 5, 9).mark_in(row, 4), 4)

    def test_nothing_handed_in_is_changed(self):
        row = row_of(6, out=[1])
        before = shown(row)
        lending = Lending(0, 0, 5, 9)
        lending.settle(0)
        lending.mark_in(row, 6)
        lending.due_in(row, 6, 0)
        self.assertEqual(shown(row), before)


class TestDue(unittest.TestCase):
    def test_the_first_place_is_lent(self):
        row = row_of(3)
        lending = Lending(0, 0, 5, 2)
        told = lending.due_in(row, 3, 0)
        self.assertEqual(told, ([], 0))
        self.assertIs(type(told), tuple)
        self.assertEqual(lending.due_in(row, 0, 0), ([], None))
        self.assertEqual(Lending(0, 1, 5, 2).due_in(row, 3, 0), ([], 1))
        self.assertEqual(Lending(0, 3, 5, 2).due_in(row, 3, 0), ([], None))
        self.assertEqual(Lending(0, 2, 5, 2).due_in(row, 2, 0), ([], None))

    def test_telling_changes_nothing(self):
        row = row_of(3)
        lending = Lending(0, 0, 1, 1)
        lending.lend(0, "t", 0)
        for n in range(3):
            told = lending.due_in(row, 3, 1)
            self.assertEqual(told, ([0], 1))
            told[0].append(7)
        self.assertIsNone(lending.fate_at(0))
        self.assertEqual(lending.next_loan(), 2)

    def test_width_used_up(self):
        row = row_of(9)
        for width in [1, 2, 5]:
            lending = Lending(0, 0, 5, 2, width)
            for k in range(width):
                self.assertEqual(lending.due_in(row, 9, 0), ([], k))
                lending.lend(k, "t", 0)
            self.assertEqual(lending.due_in(row, 9, 0), ([], None))
            self.assertEqual(lending.due_in(row, 9, 4), ([], None))
            self.assertEqual(lending.due_in(row, 9, 5), ([], 0))
            lending.call_back()
            self.assertEqual(lending.due_in(row, 9, 4), ([], None))
            self.assertEqual(lending.due_in(row, 9, 5), ([], 0))
            lending.settle(width - 1)
            self.assertEqual(lending.due_in(row, 9, 4), ([], width))

    def test_width_used_up_ahead_of_what_is_to_be_set_aside(self):
        row = row_of(4)
        lending = Lending(0, 0, 5, 1, 1)
        lending.lend(0, "t", 0)
        lending.give_back(0)
        lending.lend(3, "t", 0)
        self.assertEqual(lending.due_in(row, 4, 0), ([], None))
        self.assertEqual(lending.due_in(row, 4, 5), ([0], 1))

    def test_loans_count_wherever_they_stand(self):
        row = row_of(4)
        lending = Lending(0, 2, 5, 2, 1)
        lending.lend(0, "t", 0)
        self.assertEqual(lending.due_in(row, 4, 0), ([], None))
        self.assertEqual(lending.due_in(row, 4, 5), ([], 2))
        lending = Lending(0, 0, 5, 2, 1)
        lending.lend(9, "t", 0)
        self.assertEqual(lending.due_in(row, 4, 0), ([], None))
        self.assertEqual(lending.due_in(row, 4, 5), ([], 0))

    def test_more_loans_than_the_width(self):
        row = row_of(9)
        lending = Lending(0, 0, 5, 2, 2)
        for place in [3, 4, 5]:
            lending.lend(place, "t", 0)
        self.assertEqual(lending.due_in(row, 9, 0), ([], None))

    def test_loans_that_stand_are_passed_over(self):
        row = row_of(5)
        lending = Lending(0, 0, 5, 2, 9)
        lending.lend(0, "t", 0)
        lending.lend(2, "t", 3)
        self.assertEqual(lending.due_in(row, 5, 4), ([], 1))
        self.assertEqual(lending.due_in(row, 5, 5), ([], 0))
        lending.settle(1)
        self.assertEqual(lending.due_in(row, 5, 4), ([], 3))

    def test_tries_used_up(self):
        row = row_of(4)
        lending = Lending(0, 0, 1, 2)
        lending.lend(0, "t", 0)
        self.assertEqual(lending.due_in(row, 4, 1), ([], 0))
        lending.lend(0, "t", 1)
        self.assertEqual(lending.due_in(row, 4, 2), ([0], 1))
        lending.give_back(0)
        self.assertEqual(lending.due_in(row, 4, 1), ([0], 1))
        lending.lend(0, "t", 1)
        self.assertEqual(lending.tried_at(0), 3)
        self.assertEqual(lending.due_in(row, 4, 9), ([0], 1))
        lending.lend(1, "t", 9)
        lending.lend(1, "t", 10)
        self.assertEqual(lending.due_in(row, 4, 11), ([0, 1], 2))
        lending.set_aside(0)
        self.assertEqual(lending.due_in(row, 4, 11), ([1], 2))

    def test_all_tries_of_all_places_used_up(self):
        row = row_of(3)
        lending = Lending(0, 0, 1, 1)
        for place in range(3):
            lending.lend(place, "t", place)
        self.assertEqual(lending.due_in(row, 3, 9), ([0, 1, 2], None))
        self.assertEqual(lending.due_in(row, 2, 9), ([0, 1], None))

    def test_the_walk_ends_at_the_place_that_is_lent(self):
        row = row_of(3)
        lending = Lending(0, 0, 1, 1)
        lending.lend(2, "t", 0)
        self.assertEqual(lending.due_in(row, 3, 9), ([], 0))

    def test_places_taken_out(self):
        row = row_of(6, out=[0, 2, 3])
        lending = Lending(0, 0, 1, 1)
        self.assertEqual(lending.due_in(row, 6, 0), ([], 1))
        lending.lend(1, "t", 0)
        lending.lend(2, "t", 0)
        self.assertEqual(lending.due_in(row, 6, 1), ([1], 4))
        row.take_out(1)
        self.assertEqual(lending.due_in(row, 6, 1), ([], 4))

    def test_against_the_words_of_the_point(self):
        numbers = Numbers(4)
        for n in range(400):
            row = row_of(7, out=[place for place in range(7) if numbers.chance(1, 5)])
            lending = Lending(0, numbers.below(4), 1 + numbers.below(3), 1 + numbers.below(2), 1 + numbers.below(3))
            for k in range(numbers.below(12)):
                place = numbers.below(7)
                if lending.fate_at(place) is None:
                    numbers.one_of([lambda: lending.lend(place, numbers.one_of("ab"), k), lambda: lending.settle(place),
                                    lambda: lending.lend(place, numbers.one_of("ab"), k), lambda: lending.give_back(place),
                                    lambda: lending.set_aside(place), lending.call_back, lambda: lending.let_go("a")])()
            front, turn = numbers.below(9), numbers.below(14)
            self.assertEqual(lending.due_in(row, front, turn), self.wanted(lending, row, front, turn))
            self.assertEqual(lending.mark_in(row, front), self.wanted_mark(lending, row, front))

    def wanted_mark(self, lending, row, front):
        for place in range(lending.start, front):
            if row.at(place) is not None and lending.fate_at(place) is None:
                return place
        return max(front, lending.start)

    def wanted(self, lending, row, front, turn):
        standing = [lending.loan_at(place) for place in range(10)]
        on = [loan is not None and not turn >= loan[2] for loan in standing]
        if sum(on) >= lending.width:
            return ([], None)
        asides = []
        for place in range(lending.start, front):
            if row.at(place) is None or lending.fate_at(place) is not None or on[place]:
                continue
            if lending.tried_at(place) >= lending.tries:
                asides.append(place)
            else:
                return (asides, place)
        return (asides, None)
