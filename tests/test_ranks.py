"""Point [2]: rank."""

import unittest

from tiedcut.ranks import rank


def halvings(many):
    count = 0
    while many > 1:
        many //= 2
        count += 1
    return count


class Rank(unittest.TestCase):

    def test_small_numbers(self):
        self.assertEqual([rank(many) for many in range(1, 17)], [0, 1, 1, 2, 2, 2, 2, 3, 3, 3, 3, 3, 3, 3, 3, 4])

    def test_all_up_to_three_thousand(self):
        for many in range(1, 3001):
            self.assertEqual(rank(many), halvings(many), many)

    def test_powers_of_two_and_their_neighbours(self):
        for power in range(1, 101):
            self.assertEqual(rank(2 ** power), power)
            self.assertEqual(rank(2 ** power + 1), power)
            self.assertEqual(rank(2 ** power - 1), power - 1)

    def test_thirty_figures(self):
        for many in (10 ** 29, 10 ** 30 - 1, 2 ** 99, 123456789012345678901234567890):
            self.assertEqual(rank(many), halvings(many))


if __name__ == "__main__":
    unittest.main()
