"""Point 15: matrices."""

import unittest
from fractions import Fraction
from math import gcd
from random import Random

from making import BIG

from easelwork.errors import BadValue, Singular
from easelwork.matrices import Matrix

SAME = (1, 0, 0, 0, 1, 0, 1)


def some_parts(chance):
    """Seven numbers that make a matrix: small, negative and large ones."""
    while True:
        size = chance.choice((2, 9, 300, BIG))
        a, b, c, d, e, f = [chance.randint(-size, size) for _ in range(6)]
        if a * e - b * d:
            return (a, b, c, d, e, f, chance.choice((1, 2, 3, 64, chance.randint(1, size))))


def exact(parts, x, y):
    a, b, c, d, e, f, n = parts
    return (Fraction(a * x + b * y + c, n), Fraction(d * x + e * y + f, n))


class MatrixTest(unittest.TestCase):
    def test_parts_are_in_lowest_terms(self):
        self.assertEqual(Matrix(2, 4, 6, -8, 10, 0, 12).parts(), (1, 2, 3, -4, 5, 0, 6))
        self.assertEqual(Matrix(3, 0, 0, 0, 3, 1, 3).parts(), (3, 0, 0, 0, 3, 1, 3))
        self.assertEqual(Matrix(-5, 0, 0, 0, -5, 0, 5).parts(), (-1, 0, 0, 0, -1, 0, 1))
        chance = Random(1)
        for _ in range(300):
            parts = some_parts(chance)
            held = Matrix(*parts).parts()
            self.assertIs(type(held), tuple)
            self.assertEqual(gcd(*held), 1)
            self.assertEqual(Matrix(*[part * 77 * BIG for part in parts]).parts(), held)
            self.assertEqual([p * parts[6] for p in held], [p * held[6] for p in parts])
            self.assertGreater(held[6], 0)

    def test_wrong_parts(self):
        for n in (0, -1, -BIG):
            for rest in ((1, 0, 0, 0, 1, 0), (0, 0, 0, 0, 0, 0), (1, 2, 0, 2, 4, 0)):
                with self.assertRaises(BadValue) as caught:
                    Matrix(*rest, n)
                self.assertEqual(caught.exception.field, "matrix")
        for rest in ((0, 0, 5, 0, 0, 5), (1, 2, 0, 2, 4, 0), (0, 1, 0, 0, 1, 0), (BIG, -BIG, 1, 1, -1, 2),
                     (2 * BIG, 4, 0, BIG, 2, 0)):
            with self.assertRaises(Singular):
                Matrix(*rest, 1)

    def test_point(self):
        self.assertEqual(Matrix(2, 3, 5, 7, 11, 13, 17).point(100, -1), (202, 702, 17))
        self.assertEqual(Matrix(2, 0, 4, 0, 2, 6, 2).point(1, 1), (3, 4, 1))
        chance = Random(2)
        for _ in range(200):
            parts = some_parts(chance)
            x, y = chance.randint(-BIG, BIG), chance.randint(-9, 9)
            u, v, n = Matrix(*parts).point(x, y)
            self.assertEqual((Fraction(u, n), Fraction(v, n)), exact(parts, x, y))
            self.assertEqual(n, Matrix(*parts).parts()[6])

    def test_the_product_first_does_the_second(self):
        chance = Random(3)
        for _ in range(200):
            m, k = Matrix(*some_parts(chance)), Matrix(*some_parts(chance))
            for x, y in ((0, 0), (1, 0), (0, 1), (-7, 5)):
                between = exact(k.parts(), x, y)
                self.assertEqual(exact((m * k).parts(), x, y), exact(m.parts(), *between))

    def test_the_product_is_associative(self):
        chance = Random(4)
        for _ in range(100):
            m, k, p = [Matrix(*some_parts(chance)) for _ in range(3)]
            self.assertEqual((m * k) * p, m * (k * p))

    def test_the_inverse_leads_back(self):
        chance = Random(5)
        for _ in range(300):
            m = Matrix(*some_parts(chance))
            back = m.inverse()
            self.assertEqual((m * back).parts(), SAME)
            self.assertEqual((back * m).parts(), SAME)
            self.assertEqual(back.inverse(), m)
            self.assertEqual(exact(back.parts(), *exact(m.parts(), 3, -8)), (3, -8))

    def test_inverses_by_hand(self):
        self.assertEqual(Matrix(0, 1, 0, 1, 0, 0, 1).inverse().parts(), (0, 1, 0, 1, 0, 0, 1))
        self.assertEqual(Matrix(1, 0, 5, 0, -1, 7, 1).inverse().parts(), (1, 0, -5, 0, -1, 7, 1))
        self.assertEqual(Matrix(3, 0, 0, 0, 3, 0, 2).inverse().parts(), (2, 0, 0, 0, 2, 0, 3))

    def test_matrices_stay_as_they_were(self):
        m, k = Matrix(2, 1, 0, 0, 3, 4, 5), Matrix(1, 0, 9, 0, 1, 9, 1)
        m * k, m.inverse(), m.point(1, 2)
        self.assertEqual((m.parts(), k.parts()), ((2, 1, 0, 0, 3, 4, 5), (1, 0, 9, 0, 1, 9, 1)))

    def test_equality(self):
        m = Matrix(1, 2, 3, 4, 5, 6, 7)
        self.assertIs(m == Matrix(10, 20, 30, 40, 50, 60, 70), True)
        self.assertIs(m != Matrix(10, 20, 30, 40, 50, 60, 70), False)
        for at in range(7):
            other = [1, 2, 3, 4, 5, 6, 7]
            other[at] += 1
            self.assertIs(m == Matrix(*other), False)
        for other in (m.parts(), None, 1, "m"):
            self.assertIs(m == other, False)


if __name__ == "__main__":
    unittest.main()
