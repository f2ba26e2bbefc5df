import unittest

from helper import refusal
from lettercell.deeds import Deeds
from lettercell.errors import Busy, NoDeed, NoSuch, Twice


class TestNumbers(unittest.TestCase):
    def test_numbers_in_turn(self):
        deeds = Deeds()
        self.assertEqual([deeds.begin(name, 5) for name in ["a", "b", "c"]], [1, 2, 3])
        deeds.finish(2, "closed")
        self.assertEqual(deeds.begin("b", 5), 4)
        self.assertEqual([deeds.sender_of(n) for n in [1, 2, 3, 4]], ["a", "b", "c", "b"])

    def test_one_open_deed_of_a_sender(self):
        deeds = Deeds()
        deeds.begin("a", 5)
        deeds.begin("b", 5)
        for name, number in [("a", 1), ("b", 2)]:
            self.assertEqual(refusal(Busy, deeds.begin, name, 9), (number,))
            self.assertEqual(deeds.open_of(name), number)
            self.assertEqual(deeds.need_open(name), number)
        self.assertEqual(len(deeds.pairs()), 2)

    def test_no_open_deed(self):
        deeds = Deeds()
        for name in ["a", "b", "zz"]:
            self.assertEqual(deeds.open_of(name), 0)
            self.assertEqual(refusal(NoDeed, deeds.need_open, name), (name,))
        deeds.begin("a", 5)
        self.assertEqual(deeds.open_of("b"), 0)
        self.assertEqual(refusal(NoDeed, deeds.need_open, "b"), ("b",))

    def test_finished_by_either_fate(self):
        for fate in ["closed", "dropped"]:
            deeds = Deeds()
            deeds.begin("a", 5)
            deeds.begin("b", 5)
            self.assertEqual(deeds.fate_of(1), "open")
            self.assertIsNone(deeds.finish(1, fate))
            self.assertEqual(deeds.fate_of(1), fate)
            self.assertEqual(deeds.fate_of(2), "open")
            self.assertEqual(deeds.open_of("a"), 0)
            self.assertEqual(refusal(NoDeed, deeds.need_open, "a"), ("a",))
            self.assertEqual(deeds.begin("a", 7), 3)
            self.assertEqual((deeds.fate_of(1), deeds.fate_of(3)), (fate, "open"))
            self.assertEqual(deeds.open_of("a"), 3)

    def test_numbers_that_no_deed_has(self):
        deeds = Deeds()
        deeds.begin("a", 5)
        deeds.hold(1, 0, 0)
        deeds.pledge(1, "g", 0, 1)
        for number in [0, -1, -2, 2, 3, 10 ** 9]:
            for ask in (deeds.fate_of, deeds.sender_of, deeds.spots_of, deeds.pledges_of):
                self.assertEqual(refusal(NoSuch, ask, number), (number,))
            self.assertEqual(refusal(NoSuch, deeds.hold, number, 0, 0), (number,))
            self.assertEqual(refusal(NoSuch, deeds.pledge, number, "g", 0, 1), (number,))
            self.assertEqual(refusal(NoSuch, deeds.finish, number, "closed"), (number,))
        self.assertEqual(deeds.pairs(), [("open", [(0, 0)])])
        refusal(NoSuch, Deeds().fate_of, 1)

    def test_arguments_by_name(self):
        deeds = Deeds()
        self.assertEqual(deeds.begin(sender="a", ends=5), 1)
        self.assertEqual((deeds.open_of(sender="a"), deeds.need_open(sender="a")), (1, 1))
        self.assertIsNone(deeds.hold(number=1, row=2, place=3))
        self.assertIsNone(deeds.pledge(number=1, group="g", row=2, loan=3))
        self.assertEqual(deeds.overdue(turn=5), [1])
        self.assertIsNone(deeds.finish(number=1, fate="closed"))
        self.assertEqual((deeds.fate_of(number=1), deeds.sender_of(number=1)), ("closed", "a"))
        self.assertEqual((deeds.spots_of(number=1), deeds.pledges_of(number=1)), ([(2, 3)], [("g", 2, 3)]))


class TestSpotsAndPledges(unittest.TestCase):
    def test_spots_in_their_order_and_twice(self):
        deeds = Deeds()
        deeds.begin("a", 5)
        deeds.begin("b", 5)
        spots = [(2, 3), (0, 0), (2, 3), (1, 9), (2, 1)]
        for row, place in spots:
            self.assertIsNone(deeds.hold(1, row, place))
        deeds.hold(2, 7, 7)
        self.assertEqual(deeds.spots_of(1), spots)
        self.assertEqual(deeds.spots_of(2), [(7, 7)])

    def test_pledges_in_their_order(self):
        deeds = Deeds()
        deeds.begin("a", 5)
        pledges = [("g", 1, 2), ("f", 1, 2), ("g", 0, 2), ("g", 1, 1)]
        for pledge in pledges:
            self.assertIsNone(deeds.pledge(1, *pledge))
        self.assertEqual(deeds.pledges_of(1), pledges)
        for group, row, loan in pledges:
            self.assertEqual(refusal(Twice, deeds.pledge, 1, group, row, loan), (row, loan))
        self.assertEqual(deeds.pledges_of(1), pledges)

    def test_another_deed_may_have_the_same_pledge(self):
        deeds = Deeds()
        deeds.begin("a", 5)
        deeds.begin("b", 5)
        deeds.pledge(1, "g", 1, 2)
        self.assertIsNone(deeds.pledge(2, "g", 1, 2))
        self.assertEqual(deeds.pledges_of(2), [("g", 1, 2)])
        self.assertEqual(refusal(Twice, deeds.pledge, 2, "g", 1, 2), (1, 2))

    def test_what_a_finished_deed_has(self):
        for fate in ["closed", "dropped"]:
            deeds = Deeds()
            deeds.begin("a", 5)
            deeds.hold(1, 2, 3)
            deeds.pledge(1, "g", 1, 2)
            deeds.finish(1, fate)
            self.assertEqual((deeds.spots_of(1), deeds.pledges_of(1)), ([(2, 3)], [("g", 1, 2)]))
            self.assertEqual(deeds.sender_of(1), "a")
            self.assertEqual(deeds.pairs(), [(fate, [(2, 3)])])

    def test_pairs(self):
        deeds = Deeds()
        self.assertEqual(deeds.pairs(), [])
        deeds.begin("a", 5)
        deeds.begin("b", 5)
        deeds.begin("c", 5)
        deeds.hold(2, 4, 1)
        deeds.finish(3, "dropped")
        deeds.finish(1, "closed")
        self.assertEqual(deeds.pairs(), [("closed", []), ("open", [(4, 1)]), ("dropped", [])])
        self.assertIs(type(deeds.pairs()[0]), tuple)

    def test_lists_are_the_askers_own(self):
        deeds = Deeds()
        deeds.begin("a", 0)
        deeds.hold(1, 4, 1)
        deeds.pledge(1, "g", 1, 2)
        deeds.spots_of(1).clear()
        deeds.pledges_of(1).append(1)
        deeds.pairs()[0][1].clear()
        deeds.pairs().clear()
        deeds.overdue(9).clear()
        self.assertEqual(deeds.pairs(), [("open", [(4, 1)])])
        self.assertEqual((deeds.spots_of(1), deeds.pledges_of(1)), ([(4, 1)], [("g", 1, 2)]))
        self.assertEqual(deeds.overdue(9), [1])
        self.assertEqual(Deeds().pairs(), [])


class TestOverdue(unittest.TestCase):
    def test_at_ahead_of_and_behind_the_end(self):
        deeds = Deeds()
        for name, ends in [("a", 5), ("b", 3), ("c", 5), ("d", 9), ("e", 0)]:
            deeds.begin(name, ends)
        self.assertEqual(deeds.overdue(0), [5])
        self.assertEqual(deeds.overdue(2), [5])
        self.assertEqual(deeds.overdue(3), [2, 5])
        self.assertEqual(deeds.overdue(4), [2, 5])
        self.assertEqual(deeds.overdue(5), [1, 2, 3, 5])
        self.assertEqual(deeds.overdue(10 ** 9), [1, 2, 3, 4, 5])
        self.assertEqual(deeds.overdue(2), [5])
        self.assertEqual([deeds.fate_of(n) for n in range(1, 6)], ["open"] * 5)

    def test_only_open_ones(self):
        deeds = Deeds()
        for name in "abc":
            deeds.begin(name, 3)
        deeds.finish(1, "closed")
        deeds.finish(3, "dropped")
        self.assertEqual(deeds.overdue(3), [2])
        self.assertEqual(Deeds().overdue(3), [])
