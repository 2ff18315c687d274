"""[8.1] tables and ranks of splits, [8.2] certificates, [8.3] changes."""

import itertools
import random
import unittest
from rulertrees.errors import BadRelation, BadSplit
from tests import naive
from tests.helpers import Case, ODD_VALUES, otherwise_values
from tests.test_relations import NO_RELATIONS

RELATION = (0, 0, 0, 1, 0, 0, 0, 0, 0, 0, 0, 0, 1, 0, 0, -1)
CHANGES = ((1, 0, 0, 1), (0, 1, 1, 0), (-6, 3, 3, 0), (1, 5, 0, 1), (4, -2, 2, 8), (1, 0, 1, -1), (2, 1, 1, 1))


def is_split(thing, many):
    if type(thing) is not tuple or not 0 < len(thing) < many or not naive.is_ints(thing, len(thing)):
        return False
    return set(thing) <= set(range(many)) and sorted(set(thing)) == list(thing)


def splits_of(many):
    """All splits of so many dials."""
    return [dials for size in range(1, many) for dials in itertools.combinations(range(many), size)]


def random_relation(chance, many, bound=2, zeros=2):
    while True:
        items = [chance.choice([0] * zeros + list(range(-bound, bound + 1))) for _ in range(1 << many)]
        if any(items):
            return naive.short(items)


def relation_of_rank(chance, many, dials, rank, bound=2):
    """A relation whose table at a split has at most this rank."""
    others = [dial for dial in range(many) if dial not in dials]
    where = {}
    for _ in range(rank):
        column = [chance.randrange(-bound, bound + 1) for _ in range(1 << len(dials))]
        row = [chance.randrange(-bound, bound + 1) for _ in range(1 << len(others))]
        for bits in naive.bits_of(many):
            first = int("".join(str(bits[dial]) for dial in dials), 2)
            second = int("".join(str(bits[dial]) for dial in others), 2)
            where[bits] = where.get(bits, 0) + column[first] * row[second]
    items = [where[bits] for bits in naive.bits_of(many)]
    return naive.short(items) if any(items) else relation_of_rank(chance, many, dials, rank, bound)


def holds(relation, dials, thing):
    """Whether a value is a certificate, straight from the definition."""
    rows = naive.table(relation, dials)
    if type(thing) is not tuple or len(thing) < 3 or type(thing[0]) is not str:
        return False
    if thing[0] == "more" and len(thing) == 3:
        for numbers, many in ((thing[1], len(rows)), (thing[2], len(rows[0]))):
            if not naive.is_ints(numbers, 3) or numbers not in itertools.combinations(range(many), 3):
                return False
        return naive.determinant([[rows[row][column] for column in thing[2]] for row in thing[1]]) != 0
    if thing[0] != "two" or len(thing) != 4 or not naive.is_int(thing[1]) or thing[1] == 0:
        return False
    for pair, many in ((thing[2], len(rows)), (thing[3], len(rows[0]))):
        if type(pair) is not tuple or len(pair) != 2 or not all(naive.is_ints(numbers, many) for numbers in pair):
            return False
    (p, pp), (q, qq) = thing[2:]
    return all(thing[1] * rows[r][c] == p[r] * q[c] - pp[r] * qq[c]
               for r in range(len(rows)) for c in range(len(rows[0])))


class TablesTest(Case):

    def test_tables(self):
        chance = random.Random(1)
        for many in range(2, 7):
            for _ in range(4):
                relation = random_relation(chance, many, 1000)
                for dials in splits_of(many):
                    expected = tuple(tuple(row) for row in naive.table(relation, dials))
                    self.gives(expected, "table_of", relation, dials)

    def test_the_order_of_rows_and_columns(self):
        relation = tuple(range(1, 17))
        self.gives(((1, 2, 3, 4), (5, 6, 7, 8), (9, 10, 11, 12), (13, 14, 15, 16)), "table_of", relation, (0, 1))
        self.gives(((1, 3, 9, 11), (2, 4, 10, 12), (5, 7, 13, 15), (6, 8, 14, 16)), "table_of", relation, (1, 3))
        self.gives(((1, 2, 3, 4, 5, 6, 7, 8), (9, 10, 11, 12, 13, 14, 15, 16)), "table_of", relation, (0,))
        # The items are not shortened anew where another item comes first.
        self.gives(((0, -1), (1, 0)), "table_of", (0, 1, -1, 0), (1,))

    def test_ranks_of_splits(self):
        chance = random.Random(2)
        for many in range(2, 7):
            for dials in splits_of(many):
                for rank in (1, 2, 3, 8):
                    relation = relation_of_rank(chance, many, dials, rank)
                    expected = naive.rank(naive.table(relation, dials))
                    self.gives(expected, "rank_of", relation, dials)
                    others = tuple(dial for dial in range(many) if dial not in dials)
                    self.gives(expected, "rank_of", relation, others)
                    self.gives(expected == 1, "falls_apart", relation, dials)
                    if len(dials) in (1, many - 1):
                        self.assertLessEqual(expected, 2)

    def test_each_rank(self):
        chance = random.Random(10)
        for dials in ((0, 1, 2), (1, 3, 5), (2, 4, 5)):
            for rank in range(1, 9):
                relation = relation_of_rank(chance, 6, dials, rank, 9)
                self.assertEqual(naive.rank(naive.table(relation, dials)), rank)
                self.gives(rank, "rank_of", relation, dials)

    def test_ranks(self):
        chance = random.Random(3)
        self.gives((), "ranks", (1, 0))
        self.gives((((0,), 1),), "ranks", (1, 1, 1, 1))
        self.gives((((0,), 2), ((0, 1), 2), ((0, 2), 2)), "ranks", (0, 1, 1, 0, 1, 0, 0, 1))
        great = {}
        for many in range(1, 7):
            for zeros in (0, 2, 12):
                relation = random_relation(chance, many, 3, zeros)
                expected = [(dials, naive.rank(naive.table(relation, dials))) for dials in splits_of(many) if 0 in dials]
                self.gives(tuple(sorted(expected)), "ranks", relation)
                great.update({rank: True for _, rank in expected})
        self.assertEqual(max(great), 8)

    def test_changes_keep_the_ranks(self):
        chance = random.Random(4)
        for many in range(1, 7):
            for _ in range(6):
                relation = random_relation(chance, many, 2, 8)
                changes = tuple(chance.choice(CHANGES) for _ in range(many))
                found = self.call("ranks", relation)
                self.gives(found, "ranks", naive.changed(relation, changes))

    def test_examples(self):
        self.gives(2, "rank_of", RELATION, (0, 1))
        self.gives(3, "rank_of", RELATION, (0, 2))
        self.gives(2, "rank_of", RELATION, (3,))


class JudgeSplitTest(Case):

    def check(self, relation, dials):
        found = self.call("judge_split", relation, dials)
        self.assertTrue(holds(relation, dials, found), (relation, dials, found))
        self.gives(True, "split_holds", relation, dials, found)
        self.assertEqual(found[0], "two" if naive.rank(naive.table(relation, dials)) < 3 else "more")
        return found

    def test_both_kinds(self):
        chance = random.Random(5)
        for many in range(2, 7):
            for dials in splits_of(many):
                for rank in (1, 2, 3, 8):
                    self.check(relation_of_rank(chance, many, dials, rank, 5), dials)
        for _ in range(10):
            relation = random_relation(chance, 6, 1000)
            for dials in splits_of(6):
                self.check(relation, dials)

    def test_later_rows_and_columns(self):
        # All that is not 0 stands in the last rows and columns, or in unlike ones.
        for at in itertools.combinations(range(16), 3):
            items = [0] * 16
            for place in at:
                items[place] = 1
            self.check(tuple(items), (0, 1))
            self.check(tuple(items), (1, 3))

    def test_certificates_of_others(self):
        chance = random.Random(6)
        for many, dials in ((3, (1,)), (4, (0, 1)), (5, (0, 3)), (6, (1, 2, 4))):
            relation = relation_of_rank(chance, many, dials, 2, 3)
            kind, m, (p, pp), (q, qq) = self.check(relation, dials)

            def by(number, numbers):
                return tuple(number * item for item in numbers)

            for thing in ((kind, 3 * m, (by(3, p), by(3, pp)), (q, qq)), (kind, -m, (by(-1, p), by(-1, pp)), (q, qq)),
                          (kind, -m, (pp, p), (qq, q)), (kind, 2 * m, (by(2, p), pp), (q, by(2, qq))),
                          (kind, m, (by(-1, pp), p), (qq, q))):
                self.gives(holds(relation, dials, thing), "split_holds", relation, dials, thing)
            mixed = (kind, m, (tuple(a + 2 * b for a, b in zip(p, pp)), pp), (q, tuple(b + 2 * a for a, b in zip(q, qq))))
            self.assertTrue(holds(relation, dials, mixed))
            self.gives(True, "split_holds", relation, dials, mixed)
            for thing in ((kind, m, (pp, p), (qq, q)), (kind, 0, (by(0, p), by(0, pp)), (q, qq)), (kind, m, (p, pp), (qq, q)),
                          (kind, m, (q, qq), (p, pp)), (kind, m, p + pp, q + qq), ("more", m, (p, pp), (q, qq))):
                self.assertFalse(holds(relation, dials, thing))
                self.gives(False, "split_holds", relation, dials, thing)

    def test_all_minors(self):
        chance = random.Random(7)
        for relation in (RELATION, random_relation(chance, 4, 1, 2), relation_of_rank(chance, 4, (0, 2), 3)):
            for rows in itertools.product(range(-1, 5), repeat=3):
                columns = chance.choice([(0, 1, 2), (0, 1, 3), (1, 2, 3), (0, 2, 3), (1, 0, 2)])
                thing = ("more", rows, columns)
                self.gives(holds(relation, (0, 2), thing), "split_holds", relation, (0, 2), thing)
        self.gives(False, "split_holds", RELATION, (0, 2), ("more", (1, 2, -1), (1, 2, 3)))

    def test_more_rows_than_columns(self):
        relation = random_relation(random.Random(8), 5, 4, 0)
        for thing in (("more", (1, 4, 7), (0, 1, 3)), ("more", (0, 1, 3), (1, 4, 7)), ("more", (0, 1, 8), (0, 1, 2))):
            for dials in ((0, 1, 2), (3, 4), (0, 1)):
                self.gives(holds(relation, dials, thing), "split_holds", relation, dials, thing)

    def test_one_thing_otherwise(self):
        chance = random.Random(9)
        for relation, dials in ((RELATION, (0, 1)), (RELATION, (0, 2)), ((0, 1, -1, 0, 0, 0, 0, 0), (0,)),
                                (relation_of_rank(chance, 4, (1, 2), 2), (1, 2)),
                                (relation_of_rank(chance, 5, (1, 2), 3), (1, 2))):
            for thing in otherwise_values(self.check(relation, dials)):
                self.gives(holds(relation, dials, thing), "split_holds", relation, dials, thing)

    def test_any_value(self):
        for dials in ((0, 1), (0, 2)):
            for thing in ODD_VALUES + (("two", 1), ("more", (), ()), ("two", 1, ((), ()), ((), ())), ("more",), ("two",),
                                       ("more", None, None), ("two", None, None, None), ("two", 1, "ab", "ab")):
                self.gives(False, "split_holds", RELATION, dials, thing)

    def test_examples(self):
        self.gives(True, "split_holds", RELATION, (0, 2), ("more", (1, 2, 3), (1, 2, 3)))
        self.gives(True, "split_holds", RELATION, (0, 1),
                   ("two", 1, ((1, 0, 0, 0), (0, 0, 0, -1)), ((0, 0, 0, 1), (1, 0, 0, -1))))


class ErrorsTest(Case):

    def test_bad_relations(self):
        for thing in NO_RELATIONS:
            self.fails(BadRelation, {"thing": thing}, "ranks", thing)
            for name, rest in (("table_of", ()), ("rank_of", ()), ("judge_split", ()), ("split_holds", (None,))):
                self.fails(BadRelation, {"thing": thing}, name, thing, (0,), *rest)
                self.fails(BadRelation, {"thing": thing}, name, thing, "no split", *rest)

    def test_bad_splits(self):
        things = [thing for thing in ODD_VALUES if not is_split(thing, 4)] + [
            (), (0, 1, 2, 3), (1, 0), (0, 0), (0, 1, 1), (4,), (-1,), (0, 4), (True,), (0, True), [0], (0, [1]), ("0",),
            (0, None), 0, "0", {0: True}, (0, 1, 2, 3, 4)]
        for thing in things:
            self.assertFalse(is_split(thing, 4))
            for name, rest in (("table_of", ()), ("rank_of", ()), ("judge_split", ()), ("split_holds", (None,))):
                self.fails(BadSplit, {"thing": thing}, name, RELATION, thing, *rest)
        for name, rest in (("table_of", ()), ("rank_of", ()), ("judge_split", ()), ("split_holds", (None,))):
            self.fails(BadSplit, {"thing": (0,)}, name, (1, 0), (0,), *rest)


if __name__ == "__main__":
    unittest.main()
