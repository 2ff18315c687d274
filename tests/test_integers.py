"""[1.1] squares and square classes, [1.2] shortened tuples."""

import random
import time
import unittest
from rulertrees.errors import AllZero
from tests import naive
from tests.helpers import Case


class SquaresTest(Case):

    def test_squares_and_their_neighbours(self):
        roots = list(range(60)) + [10 ** k + d for k in range(2, 30) for d in (-1, 0, 1, 7)]
        for root in roots:
            self.gives(True, "is_square", root * root)
            self.gives(root == 0, "is_square", root * root + 1)
            self.gives(root == 1, "is_square", root * root - 1)
            self.gives(root == 0, "is_square", -root * root)

    def test_sixty_digits(self):
        root = 987654321098765432109876543217
        self.assertEqual(len(str(root * root)), 60)
        self.gives(True, "is_square", root * root)
        self.gives(False, "is_square", root * root + 2 * root)
        self.gives(False, "is_square", 10 ** 59)
        self.gives(False, "is_square", 10 ** 60 - 1)

    def test_all_small_integers(self):
        squares = {k * k for k in range(40)}
        for number in range(-30, 1500):
            self.gives(number in squares, "is_square", number)

    def test_differ_by_square(self):
        for one in range(-30, 31):
            for other in range(-30, 31):
                if one and other:
                    same = naive.squarefree(one) == naive.squarefree(other)
                    self.gives(same, "differ_by_square", one, other)
        self.gives(True, "differ_by_square", 2, 8)
        self.gives(False, "differ_by_square", 2, -8)
        self.gives(True, "differ_by_square", -3 * 10 ** 20, -27 * 10 ** 8)
        self.gives(False, "differ_by_square", 3 * 10 ** 21, 27 * 10 ** 8)


class SquareClassTest(Case):

    def test_small_integers(self):
        for number in range(1, 3000):
            expected = naive.squarefree(number)
            self.gives(expected, "square_class", number)
            self.gives(-expected, "square_class", -number)

    def test_great_prime_divisors(self):
        known = {
            99999999999973: 99999999999973, 9999991 ** 2: 1, 9999991 * 9999973: 9999991 * 9999973,
            10 ** 14: 1, 10 ** 13: 10, 2 * 7071067 ** 2: 2, 4 * 24999999999971: 24999999999971,
            46411 ** 3: 46411, 46411 ** 2 * 46399: 46399, 46411 * 46399 * 46381: 46411 * 46399 * 46381,
            2 ** 46: 1, 2 ** 45: 2, 3 ** 29: 3, 999983 ** 2 * 97: 97, 49 * 999983 * 1000003: 999983 * 1000003,
        }
        start = time.process_time()
        for number, expected in known.items():
            self.gives(expected, "square_class", number)
            self.gives(-expected, "square_class", -number)
        self.assertLess(time.process_time() - start, 20)

    def test_the_class_differs_by_a_square(self):
        chance = random.Random(1)
        for _ in range(60):
            number = chance.choice((1, -1)) * chance.randrange(1, 10 ** chance.randrange(1, 15))
            found = self.call("square_class", number)
            self.assertEqual(found > 0, number > 0)
            self.gives(True, "differ_by_square", number, found)
            for divisor in range(2, 300):
                self.assertNotEqual(found % (divisor * divisor), 0)


class ShortenedTest(Case):

    def test_examples(self):
        self.gives((0, 2, -3), "shortened", (0, -4, 6))
        self.gives((1,), "shortened", (-9,))
        self.gives((1, 0), "shortened", (5, 0))
        self.gives((0, 0, 1), "shortened", (0, 0, -10 ** 40))
        self.gives((3, -2), "shortened", (-3, 2))
        self.gives((3, -2), "shortened", (3, -2))
        self.gives((10 ** 40, 1), "shortened", (-7 * 10 ** 40, -7))

    def test_only_zeros(self):
        for many in range(6):
            self.fails(AllZero, {}, "shortened", (0,) * many)

    def test_multiples(self):
        chance = random.Random(2)
        for _ in range(300):
            numbers = tuple(chance.randrange(-6, 7) for _ in range(chance.randrange(1, 9)))
            if any(numbers):
                expected = naive.short(numbers)
                for many in (1, -1, 6, -35):
                    self.gives(expected, "shortened", tuple(many * number for number in numbers))


class ExamplesTest(Case):

    def test_examples_of_the_document(self):
        self.gives(3, "square_class", 12)
        self.gives(-2, "square_class", -8)


if __name__ == "__main__":
    unittest.main()
