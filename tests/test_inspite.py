"""[13.4] wrong readings."""

import itertools
import random
import time
import unittest
from rulertrees.errors import BadPlaces, BadSheet
from tests import naive
from tests import naive_sheets
from tests.helpers import Case, ODD_VALUES, otherwise_values
from tests.test_toldback import PLACES, SHEET, no_sheets, random_sheet


def left(sheet, w):
    """Each sheet that is left when w readings are taken out, with their positions; all are, if there are fewer."""
    for positions in itertools.combinations(range(len(sheet)), min(w, len(sheet))):
        yield positions, tuple(reading for at, reading in enumerate(sheet) if at not in positions)


def follows(sheet, w, reading):
    return all(naive_sheets.follows(rest, reading) for _, rest in left(sheet, w))


def spite_holds(n, sheet, w, reading, thing):
    if type(thing) is not tuple or len(thing) != 3 or type(thing[0]) is not str or thing[0] != "out":
        return False
    _, positions, relation = thing
    if type(positions) is not tuple or len(positions) > w or not naive.is_ints(positions, len(positions)):
        return False
    if positions not in itertools.combinations(range(len(sheet)), len(positions)):
        return False
    rest = tuple(one for at, one in enumerate(sheet) if at not in positions)
    return naive_sheets.is_agreeing(n, rest, relation) and naive.value(relation, reading) != 0


def wrong_sheet(chance, n, many, wrong, places=PLACES):
    """A relation, and so many readings at which it holds but at some wrong ones."""
    relation = naive.short([chance.randrange(-5, 6) for _ in range(2 ** n - 1)] + [1])
    sheet = []
    while len(sheet) < many:
        rest = tuple(chance.choice(places) for _ in range(n - 1))
        place = naive_sheets.answer(relation, (n - 1, rest))
        if len(sheet) < wrong or place is None:
            place = chance.choice(places)
        sheet.append(rest + (place,))
    chance.shuffle(sheet)
    return relation, tuple(sheet)


def some_sheets(seed):
    chance = random.Random(seed)
    found = [(2, SHEET), (1, ()), (2, SHEET * 2), (3, ())]
    for n in (1, 2, 3):
        for many in (1, 2, 3, 4, 6, 9, 11):
            if many <= 2 ** n + 3:
                found.append((n, random_sheet(chance, n, many, PLACES[:chance.choice((2, 4, 9))])))
                found.append((n, wrong_sheet(chance, n, many, chance.choice((0, 1, 2)))[1]))
    return found


class RelationsTest(Case):

    def test_all_that_agree(self):
        seen = {"none": 0, "one": 0, "more": 0, "infinitely many": 0}
        for n, sheet in some_sheets(1):
            for w in (0, 1, 2):
                free = [(naive_sheets.freedom(n, rest), rest) for _, rest in left(sheet, w)]
                found = self.call("relations_in_spite", n, sheet, w)
                if max(one for one, _ in free) > 1:
                    self.assertIsNone(found)
                    seen["infinitely many"] += 1
                    continue
                expected = set()
                for one, rest in free:
                    if one == 1:
                        expected.add(naive_sheets.mixed(random.Random(0), naive_sheets.basis(n, rest)))
                self.assertEqual(found, tuple(sorted(expected)))
                for relation in found:
                    # It holds at all readings but w at most.
                    self.assertLessEqual(sum(naive.value(relation, reading) != 0 for reading in sheet), w)
                seen["none" if not found else "one" if len(found) == 1 else "more"] += 1
        self.assertGreater(min(seen.values()), 3, seen)

    def test_a_relation_is_found_in_spite_of_wrong_readings(self):
        chance = random.Random(2)
        for n, many in ((1, 6), (2, 10), (3, 16)):
            for w in (0, 1, 2):
                relation, sheet = wrong_sheet(chance, n, many, w, [(a, b) for a in range(-30, 31) for b in (1, 31)
                                                                   if naive.math.gcd(a, b) == 1])
                self.assertIn(relation, self.call("relations_in_spite", n, sheet, w))

    def test_fewer_readings_than_may_be_wrong(self):
        for n in (1, 2, 3, 4):
            reading = ((1, 1),) * n
            for w, sheet in ((0, ()), (1, ()), (2, ()), (1, (reading,)), (2, (reading,)), (2, (reading, reading))):
                self.gives(None, "relations_in_spite", n, sheet, w)
                found = self.call("judge_spite", n, sheet, w, reading)
                self.assertTrue(spite_holds(n, sheet, w, reading, found))

    def test_errors(self):
        for n in range(1, 5):
            for thing, at in no_sheets(n):
                for w in (0, 2):
                    self.fails(BadSheet, {"at": at}, "relations_in_spite", n, thing, w)
                    for reading in (((1, 0),) * n, None):
                        self.fails(BadSheet, {"at": at}, "judge_spite", n, thing, w, reading)
                        self.fails(BadSheet, {"at": at}, "spite_holds", n, thing, w, reading, None)


class SpiteTest(Case):

    def check(self, n, sheet, w, reading):
        found = self.call("judge_spite", n, sheet, w, reading)
        expected = follows(sheet, w, reading)
        self.assertEqual(found is None, expected, (n, sheet, w, reading))
        if found is not None:
            self.assertTrue(spite_holds(n, sheet, w, reading, found))
            self.gives(True, "spite_holds", n, sheet, w, reading, found)
        return expected

    def test_what_follows(self):
        chance = random.Random(3)
        seen = {True: 0, False: 0}
        for n, sheet in some_sheets(4):
            for w in (0, 1, 2):
                for reading in list(sheet[:1]) + list(random_sheet(chance, n, 2)):
                    seen[self.check(n, sheet, w, reading)] += 1
        self.assertGreater(min(seen.values()), 20, seen)
        # Each of these readings follows from any three of them.
        line = tuple(((a, 1),) * 2 for a in range(6))
        self.assertFalse(self.check(2, line, 2, ((1, 1), (2, 1))))
        for w in (0, 1, 2):
            self.assertTrue(self.check(2, line, w, ((9, 1), (9, 1))))

    def test_more_positions_than_may_be_wrong(self):
        relation = (1, 0, 0, 0)
        sheet = (((1, 1), (1, 1)),) * 2 + (((0, 1), (1, 1)),)
        for w in (0, 1, 2):
            thing = ("out", (0, 1), relation)
            self.gives(w == 2, "spite_holds", 2, sheet, w, ((2, 1), (1, 1)), thing)
            self.gives(False, "spite_holds", 2, sheet, w, ((2, 1), (1, 1)), ("out", (0,), relation))
            self.gives(False, "spite_holds", 2, sheet, w, ((2, 1), (1, 1)), ("out", (1, 0), relation))
            self.gives(False, "spite_holds", 2, sheet, w, ((2, 1), (1, 1)), ("out", (0, 0), relation))
            # With fewer positions than may be taken out it is right, too.
            self.gives(True, "spite_holds", 2, sheet[2:], w, ((2, 1), (1, 1)), ("out", (), relation))
        for positions in ((1,), (0, 1), (1, 2), (1, 1), (2, 1), (1, 3), (-2,), (-2, 1)):
            # The reading at the position 1 alone is wrong.
            self.gives(positions in ((1,), (0, 1), (1, 2)), "spite_holds", 2, sheet[2:] + sheet[:1] + sheet[2:], 2,
                       ((2, 1), (1, 1)), ("out", positions, relation))
        self.gives(True, "spite_holds", 2, sheet, 2, ((2, 1), (1, 1)), ("out", (0, 1), relation))
        self.gives(False, "spite_holds", 2, sheet, 2, ((0, 1), (1, 1)), ("out", (0, 1), relation))

    def test_one_thing_otherwise(self):
        right = 0
        for sheet, w, reading in ((SHEET, 1, ((3, 1), (3, 1))), (SHEET * 2, 2, ((3, 1), (2, 1))), (SHEET, 2, ((1, 0), (1, 0)))):
            for thing in otherwise_values(self.call("judge_spite", 2, sheet, w, reading)):
                expected = spite_holds(2, sheet, w, reading, thing)
                self.gives(expected, "spite_holds", 2, sheet, w, reading, thing)
                right += expected
        self.assertGreater(right, 0)

    def test_any_value(self):
        for thing in ODD_VALUES + (("out", None, (1, 0, 0, 0)), ("out", (), None), ("out", (True,), (1, 0, 0, 0)),
                                   ("out", (0, False), (1, 0, 0, 0)), ("out", [0], (1, 0, 0, 0)), ("out", (), ())):
            for w in (0, 2):
                self.gives(False, "spite_holds", 2, SHEET, w, ((3, 1), (2, 1)), thing)

    def test_errors(self):
        for n in range(1, 5):
            good = ((1, 0),) * n
            for thing in [*ODD_VALUES, list(good), good + ((1, 0),), good[1:], ((2, 2),) * n, (None,) * n]:
                if not naive_sheets.is_reading(thing, n):
                    for sheet in ((), (good, good)):
                        self.fails(BadPlaces, {"thing": thing}, "judge_spite", n, sheet, 1, thing)
                        self.fails(BadPlaces, {"thing": thing}, "spite_holds", n, sheet, 1, thing, None)

    def test_little_time(self):
        chance = random.Random(5)
        places = [(a, 997) for a in range(-996, 997)]
        for wrong in (2, 20):
            _, sheet = wrong_sheet(chance, 4, 20, wrong, places)
            start = time.process_time()
            self.assertEqual(self.call("judge_spite", 4, sheet, 2, random_sheet(chance, 4, 1, places)[0]) is None, wrong == 20)
            self.assertIsNotNone(self.call("relations_in_spite", 4, sheet, 2))
            self.assertLess(time.process_time() - start, 10)


if __name__ == "__main__":
    unittest.main()
