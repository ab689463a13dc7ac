"""[1], [2], [3] and [20]: schemes written as texts, and read again."""

import unittest

from asking import asked, numbers, refused, scheme_of
from fewtimes.combining import tables_within
from fewtimes.errors import BadRow
from fewtimes.known import by_pairs, plain, seven
from fewtimes.schemes import is_scheme
from fewtimes.tasks import line_task, table_task
from fewtimes.texts import scheme_from, scheme_text

SMALL = (2, 3, 4, [((0, 5), (2, 0, -3), (7, 0, 0, -1)), ((4, 1), (0, 6, 0), (0, 0, 9, 0))])
SMALL_TEXT = "scheme 2 3 4\n5:1 * 2:0 -3:2 > 7:0 -1:3\n4:0 1:1 * 6:1 > 9:2"

THREE = "scheme 2 2 3\n1:0 * 1:0 > 1:0 -1:1\n1:1 * 1:1 > -1:1 1:2\n1:0 1:1 * 1:0 1:1 > 1:1"

# How a number isn't written, whatever it is for.
WRONG_NUMBERS = ["", "00", "01", "+1", "-0", "--1", "1.0", "1e1", "x", "one", "1_0", "0x1", "1,", ",", "\t1", "1\t", "1\r",
                 "\u0661", "\u00b2", "\uff11", "\u2212" + "1", "1-", "- 1", " 1", "1 "]


class SchemeText(unittest.TestCase):
    def test_the_very_text(self):
        self.assertEqual(SMALL_TEXT, asked(self, scheme_text, SMALL))
        self.assertEqual(THREE, asked(self, scheme_text, by_pairs(2)))

    def test_no_products(self):
        self.assertEqual("scheme 1 1 1", asked(self, scheme_text, (1, 1, 1, [])))
        self.assertEqual("scheme 81 9 80", asked(self, scheme_text, (81, 9, 80, [])))

    def test_parts_of_noughts(self):
        products = [((0, 0), (1,), (0, 2)), ((1, 0), (0,), (1, 1)), ((0, 1), (1,), (0, 0)), ((0, 0), (0,), (0, 0))]
        wanted = "scheme 2 1 2\n- * 1:0 > 2:1\n1:0 * - > 1:0 1:1\n1:1 * 1:0 > -\n- * - > -"
        self.assertEqual(wanted, asked(self, scheme_text, (2, 1, 2, products)))

    def test_places_of_two_figures(self):
        part = tuple(1 if at in (2, 9, 10, 80) else 0 for at in range(81))
        wanted = "scheme 81 81 81\n" + " ".join(["1:2 1:9 1:10 1:80", "*", "1:2 1:9 1:10 1:80", ">", "1:2 1:9 1:10 1:80"])
        self.assertEqual(wanted, asked(self, scheme_text, (81, 81, 81, [(part, part, part)])))

    def test_numbers_of_any_size(self):
        for figures in ("1000", "1001", "10000", "9" * 50, "1" + "0" * 50, "1" + "0" * 49, "1" + "0" * 51,
                        "12345678901234567890" * 8, "1" + "0" * 199 + "7" + "0" * 100):
            for sign in ("", "-"):
                scheme = (1, 1, 1, [((int(sign + figures),), (1,), (-int(sign + figures),))])
                other = "" if sign else "-"
                self.assertEqual(f"scheme 1 1 1\n{sign}{figures}:0 * 1:0 > {other}{figures}:0",
                                 asked(self, scheme_text, scheme))

    def test_numbers_of_some_thousand_figures(self):
        # Python itself refuses to write these at once.
        for many in (4299, 4300, 4301, 9000):
            scheme = (1, 1, 1, [((10 ** many,), (-10 ** many,), (10 ** many - 1,))])
            wanted = "scheme 1 1 1\n1" + "0" * many + ":0 * -1" + "0" * many + ":0 > " + "9" * many + ":0"
            self.assertTrue(wanted == scheme_text(scheme))


class SchemeFrom(unittest.TestCase):
    def bad(self, text, row):
        self.assertEqual(row, refused(self, BadRow, scheme_from, text).row)

    def first_row(self, row):
        """A first row that isn't so written: refused alone, and with rows behind it that are right or wrong."""
        self.bad(row, 0)
        self.bad(row + "\n1:0 * 1:0 > 1:0", 0)
        self.bad(row + "\nx\n\n", 0)

    def product_row(self, row):
        """A row that isn't so written, with lengths 3, 3 and 3, behind two right rows, ahead of right and wrong ones."""
        right = "scheme 3 3 3\n1:0 * 1:0 > 1:0\n2:2 * - > 1:0 1:1 1:2"
        self.assertEqual(2, len(scheme_from(right)[3]))
        self.bad("scheme 3 3 3\n" + row, 1)
        self.bad(right + "\n" + row, 3)
        self.bad(right + "\n" + row + "\n- * - > -\nwrong\n", 3)

    def word(self, word):
        """A word that can't stand in a sum, at each place of a product, alone, and ahead of and behind others."""
        for text in (word, word + " 1:2", "1:0 " + word, "1:0 " + word + " 1:2"):
            for parts in [(text, "1:0", "1:0"), ("1:0", text, "1:0"), ("1:0", "1:0", text)]:
                self.product_row("{} * {} > {}".format(*parts))

    def test_the_scheme_of_the_text(self):
        self.assertEqual(SMALL, asked(self, scheme_from, SMALL_TEXT))
        self.assertEqual(by_pairs(2), asked(self, scheme_from, THREE))
        self.assertEqual((1, 1, 1, []), asked(self, scheme_from, "scheme 1 1 1"))
        self.assertEqual((2, 1, 2, [((0, 0), (1,), (0, 2)), ((0, 0), (0,), (0, 0))]),
                         asked(self, scheme_from, "scheme 2 1 2\n- * 1:0 > 2:1\n- * - > -"))

    def test_what_is_written_read_again(self):
        schemes = [SMALL, seven(), by_pairs(5), plain(table_task(2, 3, 2)), (81, 81, 81, []), plain(line_task(20, 20)),
                   tables_within(seven(), (2, 2, 2), seven(), (2, 2, 2))]
        schemes += [scheme_of(1 + seed, 5, 7 - seed, seed, seed, [1, 9, 1000][seed % 3]) for seed in range(7)]
        schemes.append(scheme_of(81, 81, 81, 3, 5, 1))
        for scheme in schemes:
            told = asked(self, scheme_from, scheme_text(scheme))
            self.assertEqual(scheme, told)
            self.assertIs(True, is_scheme(told))
            self.assertEqual(scheme_text(scheme), scheme_text(told))

    def test_the_greatest_numbers(self):
        text = "scheme 1 1 2\n1000:0 * -1000:0 > 999:0 -999:1"
        self.assertEqual((1, 1, 2, [((1000,), (-1000,), (999, -999))]), asked(self, scheme_from, text))

    def test_the_empty_text_and_line_ends(self):
        self.bad("", 0)
        self.bad("\n", 0)
        self.bad("\n" + THREE, 0)
        self.bad("scheme 1 1 1\n", 1)
        self.bad(THREE + "\n", 4)
        self.bad(THREE + "\n\n", 4)
        self.bad(THREE.replace("\n", "\n\n"), 1)
        self.bad(THREE.replace("\n", "\r\n"), 0)
        self.bad(THREE.replace("\n1:0 1:1", "\r1:0 1:1"), 2)
        self.bad(THREE.replace("\n1:0 1:1", "\x0b1:0 1:1"), 2)
        self.bad(THREE.replace("\n1:0 1:1", "\u20281:0 1:1"), 2)

    def test_words_of_the_first_row(self):
        for row in ["Scheme 1 1 1", "SCHEME 1 1 1", "schem 1 1 1", "schemes 1 1 1", "1 1 1", "scheme", "scheme 1",
                    "scheme 1 1", "scheme 1 1 1 1", "scheme 1 1 1 x", "scheme1 1 1", "scheme 1,1,1", "scheme\t1 1 1",
                    "1 1 1 scheme", "x", " ", "scheme 1 1 scheme", "-", "1:0 * 1:0 > 1:0"]:
            self.first_row(row)

    def test_blanks_of_the_first_row(self):
        for row in [" scheme 1 1 1", "scheme 1 1 1 ", "scheme  1 1 1", "scheme 1  1 1", "scheme 1 1  1", "scheme 1 1 1\t",
                    "scheme\u00a01 1 1", "scheme 1 1 1  "]:
            self.first_row(row)

    def test_lengths(self):
        for length in (1, 2, 9, 10, 80, 81):
            for at in range(3):
                lengths = [5, 5, 5]
                lengths[at] = length
                self.assertEqual((*lengths, []), asked(self, scheme_from, "scheme {} {} {}".format(*lengths)))
        wrong = ["0", "82", "100", "810", "-1", "-81", "1" + "0" * 30, "9" * 5000] + WRONG_NUMBERS
        for length in wrong:
            for at in range(3):
                lengths = ["5", "5", "5"]
                lengths[at] = length
                self.first_row("scheme {} {} {}".format(*lengths))

    def test_signs_of_a_product(self):
        for row in ["", "x", " ", "-", "1:0", "1:0 * 1:0", "1:0 > 1:0", "1:0 1:0 1:0", "1:0 * 1:0 * 1:0", "1:0 > 1:0 > 1:0",
                    "1:0 > 1:0 * 1:0", "1:0 * 1:0 > 1:0 > 1:0", "1:0 * 1:0 * 1:0 > 1:0", "1:0 * 1:0 > 1:0 * 1:0",
                    "* 1:0 > 1:0", "1:0 * > 1:0", "1:0 * 1:0 >", "* >", " * > ", " *  > ", "1:0*1:0>1:0", "1:0* 1:0 > 1:0",
                    "1:0 *1:0 > 1:0", "1:0 * 1:0> 1:0", "1:0 * 1:0 >1:0", "1:0 x 1:0 > 1:0", "1:0 * 1:0 = 1:0",
                    "1:0 ** 1:0 > 1:0", "1:0 * 1:0 >> 1:0", "1:0 * 1:0 -> 1:0", "scheme 3 3 3", "1:0 * 1:0 > 1:0 x",
                    "x 1:0 * 1:0 > 1:0", "1:0 * * 1:0 > 1:0", "1:0 * 1:0 > > 1:0", "- - -"]:
            self.product_row(row)

    def test_blanks_of_a_product(self):
        for row in [" 1:0 * 1:0 > 1:0", "1:0 * 1:0 > 1:0 ", "1:0  * 1:0 > 1:0", "1:0 *  1:0 > 1:0", "1:0 * 1:0  > 1:0",
                    "1:0 * 1:0 >  1:0", "1:0  1:1 * 1:0 > 1:0", "1:0 * 1:0  1:1 > 1:0", "1:0 * 1:0 > 1:0  1:1",
                    "1:0\t* 1:0 > 1:0", "1:0 * 1:0\t> 1:0", "1:0\t1:1 * 1:0 > 1:0", "1:0 * 1:0 > 1:0\t", "1:0 * 1:0 > 1:0\r",
                    "1:0\u00a0* 1:0 > 1:0"]:
            self.product_row(row)

    def test_words_of_a_sum(self):
        for word in ["1", ":", "1:", ":1", "1::1", "1:1:1", ":1:1", "1:1:", "1;1", "1=1", "1.1", "x:1", "1:x", "1: 1", "1 :1",
                     "1 : 1", "--", "- -", "*", ">", "a"]:
            self.word(word)
        for text in ["- 1:2", "1:0 -", "1:0 - 1:2"]:
            for parts in [(text, "1:0", "1:0"), ("1:0", text, "1:0"), ("1:0", "1:0", text)]:
                self.product_row("{} * {} > {}".format(*parts))

    def test_numbers_of_a_sum(self):
        for c in WRONG_NUMBERS + ["0"]:
            self.word(f"{c}:1")
        for at in WRONG_NUMBERS + ["-1"]:
            if at != "":
                self.word(f"1:{at}")

    def test_factors_beyond_the_bounds(self):
        for c in ("0", "1001", "-1001", "1010", "2000", "10000", "-10000", "9" * 30, "-" + "9" * 30, "9" * 5000,
                  "-" + "9" * 5000, "01000", "-01000"):
            self.word(f"{c}:1")

    def test_places(self):
        # Twice, exchanged, and beyond the length.
        for text in ["1:0 1:0", "1:1 2:1", "1:1 1:0", "1:2 1:0", "1:2 1:1", "1:0 1:2 1:1", "1:1 1:0 1:2", "1:0 1:1 1:1",
                     "1:3", "1:0 1:3", "1:9", "1:10", "1:81", "1:100", "1:" + "9" * 5000]:
            for parts in [(text, "1:0", "1:0"), ("1:0", text, "1:0"), ("1:0", "1:0", text)]:
                self.product_row("{} * {} > {}".format(*parts))

    def test_each_part_has_its_own_length(self):
        self.assertEqual([((0, 1), (0, 0, 1), (0, 0, 0, 1))], asked(self, scheme_from, "scheme 2 3 4\n1:1 * 1:2 > 1:3")[3])
        self.bad("scheme 2 3 4\n1:2 * 1:2 > 1:3", 1)
        self.bad("scheme 2 3 4\n1:1 * 1:3 > 1:3", 1)
        self.bad("scheme 2 3 4\n1:1 * 1:2 > 1:4", 1)
        self.assertEqual(1, asked(self, scheme_from, "scheme 81 81 81\n1:80 * 1:80 > 1:80")[3][0][0][80])
        self.bad("scheme 81 81 81\n1:81 * 1:80 > 1:80", 1)

    def test_a_401st_product(self):
        head, row = "scheme 1 1 1", "\n1:0 * 1:0 > 1:0"
        self.assertEqual(400, len(asked(self, scheme_from, head + row * 400)[3]))
        self.bad(head + row * 401, 401)
        self.bad(head + row * 402, 401)
        self.bad(head + row * 1000, 401)
        self.bad(head + row * 400 + "\nx", 401)
        self.bad(head + row * 400 + "\n", 401)
        self.bad(head + row * 401 + "\nx", 401)
        # A row ahead that is wrong goes first.
        self.bad(head + row * 399 + "\nx" + row * 5, 400)
        self.bad(head + "\nx" + row * 500, 1)

    def test_the_first_of_several_wrong_rows(self):
        rows = SMALL_TEXT.split("\n") + ["- * - > -", "1:0 * 1:0 > 1:0"]
        for first in range(5):
            for second in range(first, 5):
                wrong = list(rows)
                wrong[first] = wrong[second] = "wrong"
                self.bad("\n".join(wrong), first)

    def test_many_small_changes(self):
        # A sign taken away or exchanged: what is still taken writes itself again.
        taken = 0
        for at in range(len(THREE)):
            for sign in ["", " ", "0", "1", "-", ":", "\n", "*", "x"]:
                text = THREE[:at] + sign + THREE[at + 1:]
                try:
                    self.assertEqual(text, scheme_text(scheme_from(text)))
                    taken += 1
                except BadRow as why:
                    self.assertLess(why.row, len(text.split("\n")))
        self.assertGreater(taken, 20)

    def test_great_numbers_are_written_and_not_read(self):
        self.bad(scheme_text((1, 1, 1, [((1,), (1,), (1000,)), ((1,), (1,), (1001,))])), 2)
        for x in numbers(5, 3, 10 ** 30):
            self.bad(scheme_text((1, 1, 1, [((1,), (x,), (1,))])), 1)


if __name__ == "__main__":
    unittest.main()
