"""[13.1] sheets, [13.2] what follows, [13.3] how free the relation is, [13.5] questions."""

import itertools
import random
import time
import unittest
from rulertrees.errors import BadPlace, BadPlaces, BadQuestion, BadSheet
from tests import naive
from tests import naive_sheets
from tests.helpers import Case, ODD_VALUES, otherwise_values
from tests.naive_rings import is_place
from tests.test_places import NO_PLACES

PLACES = ((1, 0), (0, 1), (1, 1), (-1, 1), (2, 1), (1, 2), (-3, 2), (1000, 1), (-7, 999))
SHEET = (((0, 1), (0, 1)), ((1, 1), (1, 1)), ((2, 1), (2, 1)))


def random_sheet(chance, n, many, places=PLACES):
    return tuple(tuple(chance.choice(places) for _ in range(n)) for _ in range(many))


def some_sheets(seed, rounds=3):
    """Pairs of a number of dials and a sheet, some with more readings than are needed."""
    chance = random.Random(seed)
    found = [(2, SHEET), (1, ()), (4, ()), (2, SHEET * 5)]
    for n, many in itertools.product(range(1, 5), (0, 1, 2, 3, 5, 8, 12, 15, 20)):
        if many <= 2 ** n + 4:
            for _ in range(rounds):
                found.append((n, random_sheet(chance, n, many, PLACES[:chance.choice((2, 3, 5, 9))])))
    return found


def no_sheets(n):
    """Any values that are no sheets for so many dials, with the position that is told."""
    good = ((1, 0),) * n
    found = [thing for thing in ODD_VALUES if naive_sheets.wrong_at(n, thing) is not None]
    found += [[good], {good: 1}, good + good if n != 2 else (good, (1, 0)), (good, list(good)), (good, good[1:]),
              (good, good + ((1, 0),)), (good, good, None), (good, ((2, 2),) * n), (good, ((1, False),) * n), (good, 0),
              (good, good, good, ([1, 0],) * n), (good, (), good), ((), good) if n else (None,)]
    return [(thing, naive_sheets.wrong_at(n, thing)) for thing in found]


class SheetsTest(Case):

    def test_products(self):
        chance = random.Random(1)
        for n in range(1, 5):
            for reading in random_sheet(chance, n, 40):
                self.gives(naive_sheets.products(reading), "products", reading)
        self.gives((6, 4, 9, 6), "products", ((2, 3), (3, 2)))
        for thing in [*ODD_VALUES, ((1, 0),) * 5, [(1, 0)], ((2, 2),), ((1, 0), None), ((1, 0), [0, 1]), ((0, True),)]:
            if type(thing) is not tuple or not 1 <= len(thing) <= 4 or not all(is_place(place) for place in thing):
                self.fails(BadPlaces, {"thing": thing}, "products", thing)

    def test_freedom_and_agreeing_relations(self):
        for n, sheet in some_sheets(2):
            free = naive_sheets.freedom(n, sheet)
            self.gives(free, "freedom", n, sheet)
            found = self.call("agreeing", n, sheet)
            self.assertEqual(len(found), free)
            for relation in found:
                self.assertTrue(naive_sheets.is_agreeing(n, sheet, relation))
            self.assertEqual(naive_sheets.rank(found), free)
            self.gives(found[0] if free == 1 else None, "only_relation", n, sheet)

    def test_next_readings(self):
        for n, sheet in some_sheets(3):
            expected = [reading for reading in sorted(naive_sheets.all_readings(n))
                        if not naive_sheets.follows(sheet, reading)]
            self.gives(expected[0] if expected else None, "next_reading", n, sheet)
            if expected:
                added = sheet + (expected[0],)
                self.assertEqual(naive_sheets.freedom(n, added), naive_sheets.freedom(n, sheet) - 1)

    def test_next_readings_leave_one_relation(self):
        chance = random.Random(4)
        for n in range(1, 5):
            sheet = ()
            for many in range(2 ** n - 1):
                self.gives(None, "only_relation", n, sheet)
                # A reading at which any one of the relations does not hold.
                relation = chance.choice(self.call("agreeing", n, sheet))
                if chance.random() < 0.5:
                    reading = self.call("next_reading", n, sheet)
                else:
                    reading = next(reading for reading in naive_sheets.all_readings(n, PLACES[:5])
                                   if naive.value(relation, reading) != 0)
                sheet += (reading,)
            only = self.call("only_relation", n, sheet)
            self.assertTrue(naive_sheets.is_agreeing(n, sheet, only))
            reading = self.call("next_reading", n, sheet)
            self.assertNotEqual(naive.value(only, reading), 0)
            self.gives(None, "next_reading", n, sheet + (reading,))
            self.gives((), "agreeing", n, sheet + (reading,))
            self.gives(0, "freedom", n, sheet + (reading,))

    def test_a_relation_is_told_back(self):
        chance = random.Random(5)
        for n in range(1, 5):
            relation = naive.short([chance.randrange(-9, 10) for _ in range(2 ** n - 1)] + [1])
            sheet = ()
            while self.call("freedom", n, sheet) > 1:
                places = tuple(chance.choice(PLACES) for _ in range(n - 1))
                place = naive_sheets.answer(relation, (n - 1, places))
                if place is not None and not naive_sheets.follows(sheet, places + (place,)):
                    sheet += (places + (place,),)
            self.gives(relation, "only_relation", n, sheet)

    def test_examples(self):
        self.gives(1, "freedom", 2, SHEET)
        self.gives((0, 1, -1, 0), "only_relation", 2, SHEET)
        self.gives(((0, 1), (1, 0)), "next_reading", 2, SHEET[:1])

    def test_errors(self):
        for n in range(1, 5):
            for thing, at in no_sheets(n):
                for name in ("freedom", "agreeing", "only_relation", "next_reading", "keen_question"):
                    self.fails(BadSheet, {"at": at}, name, n, thing)
                for other in (None, (0, ((1, 0),) * (n - 1))):
                    self.fails(BadSheet, {"at": at}, "is_keen", n, thing, other)
                    self.fails(BadSheet, {"at": at}, "told", n, thing, other, (2, 2))
                for reading in (None, ((1, 0),) * n):
                    self.fails(BadSheet, {"at": at}, "judge_follows", n, thing, reading)
                    self.fails(BadSheet, {"at": at}, "follows_holds", n, thing, reading, None)
        good = ((1, 0), (0, 1))
        self.fails(BadSheet, {"at": 0}, "freedom", 2, None)
        self.fails(BadSheet, {"at": 2}, "freedom", 2, (good, good, good + good, None))
        self.fails(BadSheet, {"at": 0}, "freedom", 3, (good, good))


class FollowsTest(Case):

    def check(self, n, sheet, reading):
        found = self.call("judge_follows", n, sheet, reading)
        self.assertTrue(naive_sheets.follows_holds(n, sheet, reading, found), (n, sheet, reading, found))
        self.gives(True, "follows_holds", n, sheet, reading, found)
        self.assertEqual(found[0], "follows" if naive_sheets.follows(sheet, reading) else "free")
        return found[0]

    def test_readings(self):
        chance = random.Random(6)
        seen = {"follows": 0, "free": 0}
        for n, sheet in some_sheets(7):
            readings = list(random_sheet(chance, n, 3)) + list(sheet[:2])
            for reading in readings:
                seen[self.check(n, sheet, reading)] += 1
            # A reading that follows though it does not stand in the sheet, if some do.
            for reading in naive_sheets.all_readings(n, PLACES[:4])[::9]:
                seen[self.check(n, sheet, reading)] += 1
        self.assertGreater(min(seen.values()), 100, seen)

    def test_certificates_of_others(self):
        chance = random.Random(8)
        for n, sheet in some_sheets(9, 1):
            reading = random_sheet(chance, n, 1)[0]
            found = self.call("judge_follows", n, sheet, reading)
            if found[0] == "free":
                vectors = naive_sheets.basis(n, sheet)
                for relation in [naive_sheets.mixed(chance, vectors) for _ in range(5)]:
                    thing = ("free", relation)
                    expected = naive.value(relation, reading) != 0
                    self.gives(expected, "follows_holds", n, sheet, reading, thing)
                    self.gives(False, "follows_holds", n, sheet, reading, ("free", tuple(-item for item in relation)))
                    self.gives(False, "follows_holds", n, sheet, reading, ("free", tuple(2 * item for item in relation)))
            else:
                _, many, told = found
                for times in (-1, 7, 10 ** 30):
                    thing = ("follows", many * times, tuple(times * number for number in told))
                    self.gives(True, "follows_holds", n, sheet, reading, thing)
                self.gives(False, "follows_holds", n, sheet, reading, ("follows", 0, (0,) * len(sheet)))
        # With more readings than are needed there are several right multipliers.
        double = SHEET + SHEET
        for told in ((1, -3, 3, 0, 0, 0), (0, 0, 0, 1, -3, 3), (5, -3, 0, -4, 0, 3)):
            self.gives(True, "follows_holds", 2, double, ((3, 1), (3, 1)), ("follows", 1, told))
        self.gives(False, "follows_holds", 2, double, ((3, 1), (3, 1)), ("follows", 1, (5, -3, 0, -4, 0, 2)))

    def test_relations_of_other_dials(self):
        self.gives(True, "follows_holds", 2, (), ((1, 1), (1, 1)), ("free", (1, 0, 0, 0)))
        self.gives(False, "follows_holds", 2, (), ((1, 1), (1, 1)), ("free", (1, 0)))
        self.gives(False, "follows_holds", 2, (), ((1, 1), (1, 1)), ("free", (1, 0, 0, 0, 0, 0, 0, 0)))
        self.gives(False, "follows_holds", 2, (), ((1, 1), (1, 1)), ("free", (1, 0, 0, False)))

    def test_one_thing_otherwise(self):
        right = 0
        for sheet, reading in ((SHEET, ((3, 1), (3, 1))), (SHEET, ((3, 1), (2, 1))), (SHEET[:1], ((1, 2), (0, 1))),
                               ((), ((1, 1), (1, 1))), (SHEET * 2, ((1, 0), (1, 0)))):
            for thing in otherwise_values(self.call("judge_follows", 2, sheet, reading)):
                expected = naive_sheets.follows_holds(2, sheet, reading, thing)
                self.gives(expected, "follows_holds", 2, sheet, reading, thing)
                right += expected
        self.assertGreater(right, 3)

    def test_any_value(self):
        for thing in ODD_VALUES + (("follows", 1, [1, -3, 3]), ("follows", True, (1, -3, 3)), ("follows", 1, None),
                                   ("free", None), ("free", ()), ("follows", 1, (True, -3, 3)), ("follows", (), ())):
            for reading in (((3, 1), (3, 1)), ((3, 1), (2, 1))):
                self.gives(False, "follows_holds", 2, SHEET, reading, thing)

    def test_examples(self):
        self.gives(("follows", 1, (1, -3, 3)), "judge_follows", 2, SHEET, ((3, 1), (3, 1)))

    def test_errors(self):
        for n in range(1, 5):
            good = ((1, 0),) * n
            for thing in [*ODD_VALUES, list(good), good + ((1, 0),), good[1:], ((2, 2),) * n, (None,) * n]:
                if not naive_sheets.is_reading(thing, n):
                    for sheet in ((), (good, good)):
                        self.fails(BadPlaces, {"thing": thing}, "judge_follows", n, sheet, thing)
                        self.fails(BadPlaces, {"thing": thing}, "follows_holds", n, sheet, thing, None)

    def test_little_time(self):
        chance = random.Random(10)
        start = time.process_time()
        for many in (5, 15, 16, 20):
            sheet = random_sheet(chance, 4, many, [(a, 997) for a in range(-996, 997)])
            self.check(4, sheet, random_sheet(chance, 4, 1)[0])
            self.call("next_reading", 4, sheet)
            self.call("keen_question", 4, sheet)
        self.assertLess(time.process_time() - start, 10)


class QuestionsTest(Case):

    def test_keen_questions(self):
        chance = random.Random(11)
        seen = {True: 0, False: 0}
        for n, sheet in some_sheets(12, 2):
            questions = [(chance.randrange(n), random_sheet(chance, n - 1, 1)[0]) for _ in range(4)]
            found = self.call("keen_question", n, sheet)
            self.assertEqual(found is None, naive_sheets.freedom(n, sheet) < 2)
            if found is not None:
                self.assertTrue(naive_sheets.is_question(n, found))
                self.gives(True, "is_keen", n, sheet, found)
                questions.append(found)
            for question in questions:
                expected = naive_sheets.is_keen(n, sheet, question, chance)
                self.gives(expected, "is_keen", n, sheet, question)
                seen[expected] += 1
        self.assertGreater(min(seen.values()), 40, seen)

    def test_questions_that_are_not_keen(self):
        # The sheet leaves x = y alone, or nothing.
        for question in ((0, ((1, 1),)), (1, ((3, 1),))):
            self.gives(False, "is_keen", 2, SHEET, question)
            self.gives(False, "is_keen", 2, SHEET + (((1, 1), (2, 1)),), question)
        self.gives(None, "keen_question", 2, SHEET)
        # All that agree hold at x = 0, whatever y is, or at x = 1, y = 1.
        sheet = (((0, 1), (0, 1)), ((0, 1), (1, 0)))
        self.gives(False, "is_keen", 2, sheet, (1, ((0, 1),)))
        self.gives(True, "is_keen", 2, sheet, (1, ((1, 1),)))
        self.gives(False, "is_keen", 2, (((1, 1), (1, 1)),), (0, ((1, 1),)))
        self.gives(True, "is_keen", 2, (((1, 1), (1, 1)),), (0, ((2, 1),)))
        self.gives(True, "is_keen", 1, (), (0, ()))
        self.gives(False, "is_keen", 1, (((1, 1),),), (0, ()))

    def test_relations_are_told_by_keen_questions(self):
        chance = random.Random(13)
        for n in range(1, 5):
            for zeros in (0, 6):
                relation = naive.short([chance.choice([0] * zeros + [1, -1, 2, 3]) for _ in range(2 ** n - 1)] + [1])
                sheet, asked = (), 0
                while True:
                    question = self.call("keen_question", n, sheet)
                    if question is None:
                        break
                    answer = naive_sheets.answer(relation, question)
                    expected = naive_sheets.told(sheet, question, answer)
                    self.gives(expected, "told", n, sheet, question, answer)
                    sheet, asked = expected, asked + 1
                self.gives(relation, "only_relation", n, sheet)
                self.assertLessEqual(asked, 2 ** n - 1)

    def test_told(self):
        chance = random.Random(14)
        for n in range(1, 5):
            for dial in range(n):
                sheet = random_sheet(chance, n, 2)
                question = (dial, random_sheet(chance, n - 1, 1)[0])
                for answer in PLACES + (None,):
                    self.gives(naive_sheets.told(sheet, question, answer), "told", n, sheet, question, answer)
        self.gives((((0, 1), (5, 1)), ((1, 0), (5, 1))), "told", 2, (), (0, ((5, 1),)), None)
        self.gives((((5, 1), (0, 1)), ((5, 1), (1, 0))), "told", 2, (), (1, ((5, 1),)), None)

    def test_any_value(self):
        for n in range(1, 5):
            good = (n - 1, ((1, 1),) * (n - 1))
            self.gives(True, "is_keen", n, (), good)
            for thing in [*ODD_VALUES, *otherwise_values(good)]:
                right = naive_sheets.is_question(n, thing)
                # From an empty sheet nothing follows, so that all questions are keen.
                self.gives(right, "is_keen", n, (), thing)
                if not right:
                    for answer in ((1, 1), (2, 2), None):
                        self.fails(BadQuestion, {"thing": thing}, "told", n, (), thing, answer)

    def test_errors(self):
        for thing in NO_PLACES:
            if thing is not None:
                self.fails(BadPlace, {"thing": thing}, "told", 2, SHEET, (0, ((1, 1),)), thing)
        for thing in ((2, ((1, 1),)), (-1, ((1, 1),)), (0, ()), (0, ((1, 1), (1, 1))), (True, ((1, 1),)), (0, [(1, 1)])):
            self.fails(BadQuestion, {"thing": thing}, "told", 2, SHEET, thing, None)
            self.gives(False, "is_keen", 2, (), thing)


if __name__ == "__main__":
    unittest.main()
