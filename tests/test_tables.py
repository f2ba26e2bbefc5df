import unittest

from helper import Numbers, refusal
from lettercell.drawing import drawn_away, table_of
from lettercell.errors import Doubled, NoSuch
from lettercell.rows import Row
from lettercell.tables import Readers, Table


class TestReaders(unittest.TestCase):
    def test_attached_with_row_and_place(self):
        readers = Readers()
        self.assertIsNone(readers.attach("ann", 3, 14))
        self.assertEqual((readers.row_now("ann"), readers.place_now("ann")), (3, 14))

    def test_doubled_and_no_such(self):
        readers = Readers()
        readers.attach("ann", 3, 14)
        self.assertEqual(refusal(Doubled, readers.attach, "ann", 4, 15), ("ann",))
        self.assertEqual((readers.row_now("ann"), readers.place_now("ann")), (3, 14))
        for ask in (readers.detach, readers.row_now, readers.place_now):
            self.assertEqual(refusal(NoSuch, ask, "bob"), ("bob",))
        self.assertEqual(refusal(NoSuch, readers.move, "bob", 1), ("bob",))
        self.assertEqual(refusal(NoSuch, readers.place_now, "bob"), ("bob",))

    def test_a_place_never_goes_back(self):
        readers = Readers()
        readers.attach("ann", 0, 4)
        self.assertEqual([readers.move("ann", place) for place in [5, 3, 5, 0, 9, 8]], [5, 5, 5, 5, 9, 9])
        self.assertEqual(readers.place_now("ann"), 9)

    def test_taken_off_and_come_again(self):
        readers = Readers()
        readers.attach("ann", 0, 9)
        self.assertIsNone(readers.detach("ann"))
        self.assertEqual(refusal(NoSuch, readers.detach, "ann"), ("ann",))
        self.assertEqual(readers.passed_at(0, 20), 20)
        readers.attach("ann", 1, 2)
        self.assertEqual((readers.row_now("ann"), readers.place_now("ann")), (1, 2))
        self.assertEqual(readers.move("ann", 3), 3)

    def test_the_passed_place(self):
        readers = Readers()
        self.assertEqual(readers.passed_at(0, 7), 7)
        readers.attach("ann", 1, 3)
        self.assertEqual(readers.passed_at(0, 7), 7)
        self.assertEqual(readers.passed_at(1, 7), 3)
        self.assertEqual(readers.passed_at(1, 2), 2)
        self.assertEqual(readers.passed_at(1, 0), 0)
        readers.attach("bob", 1, 5)
        readers.attach("cid", 0, 1)
        self.assertEqual(readers.passed_at(1, 7), 3)
        readers.move("ann", 6)
        self.assertEqual(readers.passed_at(1, 7), 5)
        self.assertEqual(readers.passed_at(0, 7), 1)
        readers.move("bob", 9)
        self.assertEqual(readers.passed_at(1, 7), 6)
        readers.detach("ann")
        self.assertEqual(readers.passed_at(1, 7), 7)
        self.assertEqual(readers.passed_at(1, 70), 9)

    def test_two_objects_share_nothing(self):
        Readers().attach("ann", 0, 0)
        self.assertIsNone(Readers().attach("ann", 0, 0))

    def test_arguments_by_name(self):
        readers = Readers()
        readers.attach(name="ann", row=1, place=2)
        self.assertEqual((readers.row_now(name="ann"), readers.place_now(name="ann")), (1, 2))
        self.assertEqual(readers.move(name="ann", place=3), 3)
        self.assertEqual(readers.passed_at(row=1, floor=9), 3)
        readers.detach(name="ann")


class TestTable(unittest.TestCase):
    def test_the_beginning(self):
        table = Table()
        self.assertEqual((table.place, table.shown(), table.last_at("a")), (0, {}, -1))

    def test_letters_are_taken_in_their_order(self):
        table = Table()
        self.assertIsNone(table.take([(0, "a", "x"), (1, "b", "y"), (4, "a", "z")], 5))
        self.assertEqual((table.place, table.shown()), (5, {"a": "z", "b": "y"}))
        self.assertEqual([table.last_at(key) for key in "abc"], [4, 1, -1])

    def test_letters_beneath_the_own_place_are_left_out(self):
        table = Table()
        table.take([(0, "a", "x"), (2, "b", "y")], 3)
        table.take([(0, "a", "old"), (2, "c", "old"), (3, "b", "new"), (4, "d", "new")], 6)
        self.assertEqual((table.place, table.shown()), (6, {"a": "x", "b": "new", "d": "new"}))
        self.assertEqual([table.last_at(key) for key in "abcd"], [0, 3, -1, 4])

    def test_a_place_told_that_is_less(self):
        table = Table()
        table.take([(0, "a", "x")], 9)
        table.take([(1, "a", "y"), (3, "b", "z")], 4)
        self.assertEqual((table.place, table.shown(), table.last_at("a")), (9, {"a": "x"}, 0))
        table.take([], 9)
        table.take([], 0)
        self.assertEqual(table.place, 9)
        table.take([], 12)
        self.assertEqual(table.place, 12)

    def test_stones(self):
        table = Table()
        table.take([(0, "a", "x"), (1, "a", None), (2, "b", None)], 3)
        self.assertEqual((table.shown(), table.last_at("a"), table.last_at("b")), ({}, 1, 2))
        table.take([(3, "b", ""), (4, "a", "y")], 5)
        self.assertEqual((table.shown(), table.last_at("a"), table.last_at("b")), ({"a": "y", "b": ""}, 4, 3))

    def test_what_is_told_is_the_askers_own(self):
        letters = [(0, "a", "x"), (1, "b", None)]
        table = Table()
        table.take(letters=letters, upto=2)
        self.assertEqual(letters, [(0, "a", "x"), (1, "b", None)])
        letters.clear()
        told = table.shown()
        told["a"] = "other"
        told["c"] = "more"
        self.assertEqual(table.shown(), {"a": "x"})
        self.assertEqual(table.last_at(key="a"), 0)
        self.assertEqual(Table().shown(), {})


class TestReadingWhileDrawn(unittest.TestCase):
    def test_in_several_goes(self):
        met = 0
        for seed in range(250):
            numbers = Numbers(seed)
            row, ever, readers, table, top = Row(), [], Readers(), Table(), 0
            readers.attach("ann", 0, 0)
            lasts = {key: -1 for key in "abcd"}
            for step in range(60):
                deed = numbers.below(10)
                if deed < 5:
                    key, word = numbers.one_of("abcd"), numbers.one_of([None, f"w{step}", f"v{step}"])
                    ever.append((row.add(key, word), key, word))
                elif deed < 7:
                    floor = numbers.below(row.end + 1)
                    passed = readers.passed_at(0, floor)
                    for place in drawn_away(row, floor, passed):
                        row.take_out(place)
                    top = max(top, floor)
                else:
                    most = 1 + numbers.below(3)
                    letters = row.seen(readers.place_now("ann"), row.end, most)
                    upto = row.end if len(letters) < most else letters[-1][0] + 1
                    table.take(letters, upto)
                    self.assertEqual(readers.move("ann", upto), table.place)
                place = readers.place_now("ann")
                if place >= top:
                    met += 1
                    self.assertEqual(table.shown(), table_of([letter for letter in ever if letter[0] < place]))
                for key in lasts:
                    self.assertGreaterEqual(table.last_at(key), lasts[key])
                    lasts[key] = table.last_at(key)
        self.assertGreater(met, 2000)

    def test_a_stone_stays_for_a_reader_behind_it(self):
        row, readers, table = Row(), Readers(), Table()
        readers.attach("ann", 0, 0)
        row.add("a", "x")
        row.add("b", "y")
        table.take(row.seen(0, 1, 9), 1)
        readers.move("ann", 1)
        row.add("a", None)
        for place in drawn_away(row, 3, readers.passed_at(0, 3)):
            row.take_out(place)
        table.take(row.seen(1, 3, 9), 3)
        self.assertEqual(table.shown(), {"b": "y"})
        readers.move("ann", 3)
        self.assertEqual(drawn_away(row, 3, readers.passed_at(0, 3)), [2])
