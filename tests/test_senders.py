import unittest

from helper import Numbers, refusal
from lettercell.errors import Fenced, Gap, NoSuch, TooOld
from lettercell.senders import Senders


def noted(many, name="ann"):
    senders = Senders()
    senders.hail(name)
    for number in range(1, many + 1):
        senders.note(name, number, number % 3, 10 * number)
    return senders


def spot(number):
    return (number % 3, 10 * number)


class TestLives(unittest.TestCase):
    def test_each_hail_gives_a_new_life(self):
        senders = Senders()
        self.assertEqual([senders.hail("ann") for n in range(4)], [(1, 0), (2, 0), (3, 0), (4, 0)])
        self.assertEqual(senders.life_of("ann"), 4)

    def test_a_hail_tells_the_last_number(self):
        senders = noted(3)
        self.assertEqual(senders.hail("ann"), (2, 3))
        senders.note("ann", 4, 0, 0)
        self.assertEqual(senders.hail("ann"), (3, 4))
        self.assertEqual(senders.last_of("ann"), 4)

    def test_numbers_and_spots_go_on_through_all_lives(self):
        senders = noted(5)
        senders.hail("ann")
        senders.hail("ann")
        self.assertEqual([senders.spot_of("ann", n) for n in range(1, 7)], [spot(n) for n in range(1, 6)] + [None])
        self.assertIsNone(senders.note("ann", 6, 1, 1))
        self.assertEqual(senders.spot_of("ann", 6), (1, 1))

    def test_only_the_present_life_is_allowed(self):
        senders = Senders()
        for life in range(1, 5):
            senders.hail("ann")
            self.assertIsNone(senders.allow("ann", life))
            for other in [0, -1, life - 1, life + 1, life + 2, 10 ** 9]:
                self.assertEqual(refusal(Fenced, senders.allow, "ann", other), (life,))
            self.assertEqual(senders.life_of("ann"), life)

    def test_arguments_by_name(self):
        senders = Senders()
        self.assertEqual(senders.hail(name="ann"), (1, 0))
        self.assertIsNone(senders.allow(name="ann", life=1))
        self.assertIsNone(senders.spot_of(name="ann", number=1))
        self.assertIsNone(senders.note(name="ann", number=1, row=4, place=9))
        self.assertEqual(senders.spot_of(name="ann", number=1), (4, 9))
        self.assertEqual((senders.life_of(name="ann"), senders.last_of(name="ann")), (1, 1))


class TestSpots(unittest.TestCase):
    def test_spots_of_the_last_eight(self):
        for many in range(0, 30):
            senders = noted(many)
            for number in range(1, many + 1):
                if number > many - 8:
                    told = senders.spot_of("ann", number)
                    self.assertEqual(told, spot(number))
                    self.assertIs(type(told), tuple)
                else:
                    self.assertEqual(refusal(TooOld, senders.spot_of, "ann", number), (number,))
            self.assertIsNone(senders.spot_of("ann", many + 1))
            for above in [many + 2, many + 3, 10 ** 9]:
                self.assertEqual(refusal(Gap, senders.spot_of, "ann", above), (many + 1,))
            self.assertEqual(senders.last_of("ann"), many)

    def test_asking_changes_nothing(self):
        senders = noted(9)
        for n in range(3):
            self.assertIsNone(senders.spot_of("ann", 10))
            refusal(Gap, senders.spot_of, "ann", 11)
            refusal(TooOld, senders.spot_of, "ann", 1)
            self.assertEqual(senders.spot_of("ann", 2), spot(2))
        self.assertEqual(senders.last_of("ann"), 9)

    def test_noting_another_than_the_due_one(self):
        for many in [0, 1, 7, 8, 9, 20]:
            senders = noted(many)
            for number in range(1, many + 1):
                self.assertEqual(refusal(TooOld, senders.note, "ann", number, 5, 5), (number,))
            for number in [many + 2, many + 9, 10 ** 9]:
                self.assertEqual(refusal(Gap, senders.note, "ann", number, 5, 5), (many + 1,))
            self.assertEqual(senders.last_of("ann"), many)
            for number in range(max(1, many - 7), many + 1):
                self.assertEqual(senders.spot_of("ann", number), spot(number))
            self.assertIsNone(senders.note("ann", many + 1, 5, 5))
            self.assertEqual(senders.spot_of("ann", many + 1), (5, 5))

    def test_spots_are_kept_as_they_are_told(self):
        senders = Senders()
        senders.hail("ann")
        spots = [(0, 0), (0, 0), (10 ** 9, 0), (0, 10 ** 9), (7, 7)]
        for number, (row, place) in enumerate(spots, start=1):
            senders.note("ann", number, row, place)
        self.assertEqual([senders.spot_of("ann", n) for n in range(1, 6)], spots)


class TestNames(unittest.TestCase):
    def test_a_name_that_was_never_hailed(self):
        senders = noted(2)
        for name in ["bob", "an", "annn", "a"]:
            for n in range(2):
                for number in [1, 2, 3, 10 ** 9]:
                    self.assertEqual(refusal(NoSuch, senders.spot_of, name, number), (name,))
                    self.assertEqual(refusal(NoSuch, senders.note, name, number, 0, 0), (name,))
                for life in [0, 1, 2]:
                    self.assertEqual(refusal(NoSuch, senders.allow, name, life), (name,))
                self.assertEqual(senders.life_of(name), 0)
                self.assertEqual(senders.last_of(name), 0)
        self.assertEqual(senders.hail("bob"), (1, 0))
        self.assertIsNone(senders.spot_of("bob", 1))

    def test_senders_beside_one_another(self):
        senders = Senders()
        numbers = Numbers(1)
        lives = {name: 0 for name in "abc"}
        spots = {name: [] for name in "abc"}
        for n in range(600):
            name = numbers.one_of("abc")
            if lives[name] == 0 or numbers.chance(1, 9):
                lives[name] += 1
                self.assertEqual(senders.hail(name), (lives[name], len(spots[name])))
            else:
                spots[name].append((numbers.below(5), n))
                senders.note(name, len(spots[name]), *spots[name][-1])
            for other in "abc":
                self.assertEqual(senders.life_of(other), lives[other])
                self.assertEqual(senders.last_of(other), len(spots[other]))
                if spots[other]:
                    first = max(1, len(spots[other]) - 7)
                    kept = [senders.spot_of(other, k) for k in range(first, len(spots[other]) + 1)]
                    self.assertEqual(kept, spots[other][-8:])

    def test_two_objects_share_nothing(self):
        noted(3)
        senders = Senders()
        self.assertEqual(senders.last_of("ann"), 0)
        refusal(NoSuch, senders.allow, "ann", 1)
