import unittest

from timegranary.checks import check


def model(line):
    """The sum of places times numbers, by rest after each sign."""
    told = 0
    for place in range(len(line)):
        told = (told + (place + 1) * ord(line[place])) % 999983
    return told


class Check(unittest.TestCase):
    def test_of_the_empty_line(self):
        self.assertEqual(check(""), 0)

    def test_of_one_sign(self):
        self.assertEqual([check(sign) for sign in " a~"], [32, 97, 126])

    def test_of_two_signs(self):
        self.assertEqual(check("ab"), 97 + 2 * 98)
        self.assertEqual(check(line="ba"), 98 + 2 * 97)

    def test_of_the_line_in_the_document(self):
        self.assertEqual(check("1. 6 flush"), 4992)

    def test_of_long_lines(self):
        for line in ("~" * 200, "~" * 5000, " " * 900000, "put a=b,c=d 60 5 " * 3000):
            self.assertEqual(check(line), model(line))
            self.assertLess(check(line), 999983)

    def test_at_the_rest(self):
        # The least count of signs ~ whose sum is at or beyond the rest.
        line = "~" * 125
        self.assertEqual(check(line), 126 * 125 * 126 // 2)
        self.assertEqual(check("~" * 126), 126 * 126 * 127 // 2 - 999983)

    def test_each_single_change_changes_it(self):
        line = "series 12 7"
        for place, sign in enumerate(line):
            for other in map(chr, range(32, 127)):
                if other != sign:
                    self.assertNotEqual(check(line[:place] + other + line[place + 1:]), check(line))


if __name__ == "__main__":
    unittest.main()
