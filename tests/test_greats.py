import random
import sys
import unittest
from unittest import mock

from readgrove import greats
from readgrove.greats import divided, figures_of
from tests.trials import value_of


def drawn_number(dice, most):
    """A number of at most so many bits: any one, or one of many ones or noughts at an end."""
    bits = dice.randrange(most)
    return dice.choice([
        dice.getrandbits(bits), (1 << bits) - 1, 1 << bits, (1 << bits) + dice.getrandbits(bits // 2),
        (1 << bits) - 1 - dice.getrandbits(bits // 2),
    ])


def drawn_pair(dice, most):
    """A number and a divisor, the number often beside a multiple of the divisor."""
    divisor = drawn_number(dice, most) + 1
    number = drawn_number(dice, 3 * most)
    if dice.randrange(3) == 0:
        number = max(0, divisor * drawn_number(dice, most) + dice.choice([-1, 0, 1, divisor - 1]))
    return number, divisor


class Division(unittest.TestCase):
    def trial(self, seed, most, count):
        dice = random.Random(seed)
        for _ in range(count):
            number, divisor = drawn_pair(dice, most)
            self.assertTrue(divided(number, divisor) == divmod(number, divisor), (seed, most))

    def test_many_halves_of_few_bits(self):
        for few in (1, 2, 3, 7, 16):
            with mock.patch.object(greats, "FEW_BITS", few):
                self.trial(few, 250, 2000)

    def test_great_ones(self):
        self.trial(1, 30000, 500)
        self.trial(2, 200000, 20)

    def test_edges(self):
        for bits in (1, 63, 3999, 4000, 4001, 7999, 8000, 8001, 16000, 16001):
            for divisor in (1 << bits, (1 << bits) - 1, (1 << bits) + 1):
                square = divisor * divisor
                for number in (0, 1, divisor - 1, divisor, divisor + 1, square - 1, square, square + 1, square * square - 1):
                    self.assertTrue(divided(number, divisor) == divmod(number, divisor), bits)


class Figures(unittest.TestCase):
    def test_as_many_as_python_writes(self):
        for number in list(range(1200)) + [10 ** k + more for k in range(1, 4200, 7) for more in (-1, 0, 1)]:
            self.assertEqual(figures_of(number), str(number))
        dice = random.Random(5)
        for _ in range(1000):
            number = drawn_number(dice, 14000)
            self.assertEqual(figures_of(number), str(number))

    def test_more_than_python_writes(self):
        dice = random.Random(6)
        for size in (4299, 4300, 4301, 5000, 8191, 8192, 8193, 65536, 100000):
            for number in (10 ** size - 1, 10 ** size, 10 ** size + dice.randrange(10 ** size), 10 ** size + 1):
                written = figures_of(number)
                self.assertEqual(len(written), size if number < 10 ** size else size + 1)
                self.assertTrue(value_of(written) == number, size)

    def test_noughts_within(self):
        for size in (1, 63, 64, 65, 127, 128, 129, 5000):
            written = "7" + "0" * size + "7" + "0" * (2 * size)
            self.assertTrue(figures_of(value_of(written)) == written, size)

    def test_whatever_python_is_set_to(self):
        written = "9" * 5000
        before = sys.get_int_max_str_digits()
        sys.set_int_max_str_digits(640)
        try:
            self.assertTrue(figures_of(10 ** 5000 - 1) == written)
        finally:
            sys.set_int_max_str_digits(before)


if __name__ == "__main__":
    unittest.main()
