"""[1], [2], [3] and [21]: the desk, its deeds, its asks, and the rows that can't stand there."""

import unittest

from asking import asked, numbers, refused
from fewtimes.combining import within
from fewtimes.desk import run
from fewtimes.errors import BadRow
from fewtimes.great import long_product, times_for
from fewtimes.known import by_pairs, plain, seven
from fewtimes.least import least_over
from fewtimes.moves import flipped, flips, tidied
from fewtimes.schemes import sums_in, times_in
from fewtimes.search import walked
from fewtimes.tasks import line_task, ring_task, table_task
from fewtimes.texts import scheme_text
from fewtimes.turning import mirrored, turned

# A text whose rows all can stand there, with schemes a (lines of two), b (two by two tables) and c (lines of one).
GROUND = ["pairs a 2", "seven b", "times a", "pairs c 1"]
MANY = len(GROUND)

WRONG_NUMBERS = ["", "x", "00", "01", "+1", "-1", "-0", "1.0", "1_0", "1e1", "\u0661", "\u00b2", "1\t", "1\r", "1234567890",
                 "9" * 5000, "0000000001"]


def shown(scheme):
    """A scheme's text as the desk shows it."""
    return " / ".join(scheme_text(scheme).split("\n"))


class Desk(unittest.TestCase):
    def told(self, *rows):
        answers = asked(self, run, "\n".join(rows))
        self.assertIs(list, type(answers))
        self.assertTrue(all(type(answer) is str for answer in answers))
        return answers

    def bad(self, row, *rows):
        """A text that is refused, with the number of the row."""
        self.assertEqual(row, refused(self, BadRow, run, "\n".join(rows)).row)

    def can_not_stand(self, *rows):
        """Rows that can't stand behind the ground, each by itself."""
        for row in rows:
            self.bad(MANY, *GROUND, row)
            # Behind it more that can't stand, and more that can.
            self.bad(MANY, *GROUND, row, "wrong", "", "times a")
            self.bad(MANY + 1, *GROUND, "show a", row, "times a", row)

    def can_stand(self, *rows):
        """Rows that can stand behind the ground, each by itself."""
        for row in rows:
            self.told(*GROUND, row)


class Texts(Desk):
    def test_the_empty_text(self):
        self.assertEqual([], asked(self, run, ""))

    def test_no_asks(self):
        self.assertEqual([], self.told("seven a"))
        self.assertEqual([], self.told("seven a", "pairs b 3", "turned c a"))

    def test_answers_in_order(self):
        self.assertEqual(["3", "7", "3", "4"], self.told("pairs a 2", "times a", "seven b", "times b", "times a", "sums a"))

    def test_line_ends_and_empty_rows(self):
        self.bad(0, "", "")
        self.bad(0, "", "seven a")
        self.bad(1, "seven a", "")
        self.bad(1, "seven a", "", "times a")
        self.bad(2, "seven a", "times a", "")
        self.bad(0, "seven a\r", "times a\r")
        self.bad(0, "seven a\x0btimes a")
        self.bad(0, "seven a\u2028times a")

    def test_words_that_are_none(self):
        self.can_not_stand("", " ", "x", "Seven d", "SEVEN d", "sevens d", "seve d", "7 d", "make d", "a", "table 2 2 2",
                           "line 2 2", "scheme 1 1 1", "yes", "-", "run a", "within", "cut d a", "flips a", "best a")

    def test_blanks(self):
        for row in ["seven d", "pairs d 3", "plain d line 2 2", "within d a b", "turned d a", "walked d a 1 2", "times a",
                    "task a line 2 2", "least 2 line 2 2", "long a 2 10 12 34", "show b"]:
            self.can_stand(row)
            self.can_not_stand(" " + row, row + " ", row.replace(" ", "  ", 1), row.replace(" ", "\t", 1), row + "\t",
                               row.replace(" ", "", 1), row + "\r", row.replace(" ", "\u00a0", 1))
            last = row.rfind(" ")
            self.can_not_stand(row[:last] + " " + row[last:], row[:last] + "\t" + row[last + 1:])

    def test_one_word_more_or_less(self):
        for row in ["seven d", "pairs d 3", "plain d line 2 2", "plain d table 1 2 3", "plain d ring 2 +", "within d a b",
                    "turned d a", "mirrored d a", "tidied d a", "times a", "sums a", "task a line 2 2",
                    "task a table 1 2 3", "task a ring 2 -", "least 2 line 2 2", "long a 2 10 12 34", "show b"]:
            self.can_stand(row)
            words = row.split(" ")
            for at in range(len(words)):
                self.can_not_stand(" ".join(words[:at] + words[at + 1:]))
            for word in ("1", "a", "+"):
                self.can_not_stand(row + " " + word)

    def test_the_first_row_goes_and_no_answer(self):
        rows = ["pairs a 2", "times a", "show a", "seven b", "sums b"]
        for first in range(5):
            for second in range(first, 5):
                wrong = list(rows)
                wrong[first] = wrong[second] = "x"
                self.bad(first, *wrong)


class Names(Desk):
    def test_letters(self):
        for name in ["a", "z", "abcdefgh", "zzzzzzzz", "seven", "plain", "table", "line", "times", "show", "long"]:
            self.assertEqual(["7"], self.told(f"seven {name}", f"times {name}"))
        for name in ["", "abcdefghi", "zzzzzzzzz", "A", "aB", "Ab", "a1", "1", "a_", "_", "a-b", "-", "a.b", "\u00e4",
                     "a\u00e4", "\u0430", "\u00aa", "a\t", "*", "a" * 5000]:
            for deed in ["seven {}", "pairs {} 2", "plain {} line 2 2", "within {} a b", "turned {} a", "mirrored {} a",
                         "tidied {} a", "walked {} a 1"]:
                self.can_not_stand(deed.format(name))

    def test_there_already(self):
        self.can_not_stand("seven a", "seven b", "pairs a 2", "plain a line 2 2", "within a a b", "turned a a",
                           "mirrored b a", "tidied a a", "walked a a 1", "walked b b")
        self.bad(1, "seven a", "seven a")
        self.bad(2, "seven a", "seven b", "turned b a")

    def test_not_there(self):
        self.can_not_stand("within d a x", "within d x a", "within d x x", "within d d d", "within d a d", "turned d d",
                           "turned d x", "mirrored d x", "tidied d x", "walked d x 1", "walked d d", "times x", "sums x",
                           "task x line 2 2", "long x 2 10 1 2", "show x", "show A", "show ", "times aa")

    def test_made_further_down(self):
        self.bad(0, "times a", "seven a")
        self.bad(1, "seven a", "turned b c", "turned c a")
        self.bad(0, "show a", "seven a", "show a")
        self.assertEqual(["7"], self.told("seven a", "turned c a", "turned b c", "times b"))

    def test_asks_make_no_name(self):
        self.bad(2, "seven a", "times a", "times times")


class Deeds(Desk):
    def made(self, scheme, *rows):
        """What the last row makes, by the name d, held against the scheme of the functions."""
        self.assertEqual([shown(scheme)], self.told(*rows, "show d"))
        self.assertEqual([str(times_in(scheme)), str(sums_in(scheme))], self.told(*rows, "times d", "sums d"))

    def test_plain(self):
        self.assertEqual(["scheme 1 2 2 / 1:0 * 1:0 > 1:0 / 1:0 * 1:1 > 1:1"], self.told("plain d line 1 2", "show d"))
        self.assertEqual(["scheme 2 2 2 / 1:0 * 1:0 > 1:0 / 1:0 * 1:1 > 1:1 / 1:1 * 1:0 > 1:1 / 1:1 * 1:1 > -1:0"],
                         self.told("plain d ring 2 -", "show d"))
        self.assertEqual(["scheme 2 2 2 / 1:0 * 1:0 > 1:0 / 1:0 * 1:1 > 1:1 / 1:1 * 1:0 > 1:1 / 1:1 * 1:1 > 1:0"],
                         self.told("plain d ring 2 +", "show d"))
        for n, m, p in [(1, 1, 1), (1, 2, 3), (3, 1, 2), (2, 3, 1), (2, 2, 2)]:
            self.made(plain(table_task(n, m, p)), f"plain d table {n} {m} {p}")
            self.made(plain(line_task(n, m)), f"plain d line {n} {m}")
            self.made(plain(ring_task(n, 1)), f"plain d ring {n} +")
            self.made(plain(ring_task(n, -1)), f"plain d ring {n} -")

    def test_pairs(self):
        self.assertEqual(["scheme 2 2 3 / 1:0 * 1:0 > 1:0 -1:1 / 1:1 * 1:1 > -1:1 1:2 / 1:0 1:1 * 1:0 1:1 > 1:1"],
                         self.told("pairs d 2", "show d"))
        for n in (1, 2, 3, 9, 10, 24, 25):
            self.made(by_pairs(n), f"pairs d {n}")
        self.can_not_stand("pairs d 26", "pairs d 0", "pairs d 27", "pairs d 100", "pairs d 999999999", "pairs d a",
                           *[f"pairs d {number}" for number in WRONG_NUMBERS])

    def test_seven(self):
        self.made(seven(), "seven d")
        self.assertEqual(["7", "yes"], self.told("seven d", "times d", "task d table 2 2 2"))

    def test_within(self):
        self.made(within(by_pairs(2), seven()), "pairs a 2", "seven b", "within d a b")
        self.made(within(seven(), by_pairs(2)), "pairs a 2", "seven b", "within d b a")
        self.made(within(seven(), seven()), "seven b", "within d b b")

    def test_turned_and_mirrored(self):
        three = plain(table_task(1, 2, 3))
        self.made(turned(three), "plain a table 1 2 3", "turned d a")
        self.made(mirrored(three), "plain a table 1 2 3", "mirrored d a")
        self.made(turned(turned(three)), "plain a table 1 2 3", "turned b a", "turned d b")
        self.made(mirrored(turned(by_pairs(3))), "pairs a 3", "turned b a", "mirrored d b")

    def test_tidied(self):
        self.made(tidied(seven()), "seven a", "tidied d a")
        # A turned one has signs to be turned again, and is tidied to other ones.
        self.assertNotEqual(turned(by_pairs(3)), tidied(turned(by_pairs(3))))
        self.made(tidied(turned(by_pairs(3))), "pairs a 3", "turned b a", "tidied d b")

    def test_walked(self):
        self.assertEqual(["scheme 2 2 3 / 1:0 * 1:0 > 1:0 -1:1 / 1:0 1:1 * 1:0 1:1 > 1:1 / 1:1 * 1:1 > -1:1 1:2"],
                         self.told("plain a line 2 2", "walked d a 2 3", "show d"))
        for chosen in ([], [0], [999999999], [4, 0, 123456789], [3, 5, 0, 4, 1, 0], list(range(60))):
            row = " ".join(["walked d a"] + [str(number) for number in chosen])
            self.made(walked(plain(line_task(2, 3)), chosen)[1], "plain a line 2 3", row)
        self.made(tidied(turned(by_pairs(2))), "pairs a 2", "turned b a", "walked d b")

    def test_walked_numbers(self):
        self.can_stand("walked d a" + " 7" * 60, "walked d a" + " 123456789" * 59)
        self.can_not_stand("walked d a" + " 7" * 61, "walked d a" + " 7" * 62, "walked d a" + " 0" * 1000)
        for number in WRONG_NUMBERS:
            self.can_not_stand(f"walked d a {number}", f"walked d a 1 {number}", f"walked d a {number} 1")

    def test_what_is_made_is_used_again(self):
        rows = ["plain a line 2 2", "walked b a 2 3", "turned c b", "mirrored e c", "turned f e", "tidied g f", "within h g b"]
        scheme = walked(plain(line_task(2, 2)), [2, 3])[1]
        made = tidied(turned(mirrored(turned(scheme))))
        self.assertEqual([shown(within(made, scheme)), shown(made)], self.told(*rows, "show h", "show g"))

    def test_great_numbers_are_no_ground_to_refuse(self):
        # Two products are flipped to and fro until their numbers are great; then two flips make one product fewer.
        scheme, chosen = plain(line_task(4, 4)), []
        for turn in range(50):
            flip = [(14, 15, 0), (15, 14, 0)][turn % 2]
            chosen.append(flips(scheme).index(flip))
            scheme = tidied(flipped(scheme, flip))
        more, scheme = put_together(scheme, 0, 1)
        self.assertGreater(max(x for product in scheme[3] for part in product for x in part), 10 ** 9)
        row = " ".join(["walked d a"] + [str(number) for number in chosen + more])
        rows = ["plain a line 4 4", row, "turned b d", "tidied c b", "pairs e 2", "within f e d"]
        self.assertEqual([shown(scheme), "yes", shown(within(by_pairs(2), scheme)), f"{10 ** 17 * (10 ** 17 + 7)} 225"],
                         self.told(*rows, "show d", "task d line 4 4", "show f",
                                   f"long d 4 1000 {10 ** 17} {10 ** 17 + 7}"))

class Bounds(Desk):
    def test_lengths_of_a_task(self):
        for task in ["line 1 81", "line 81 1", "line 2 80", "line 80 2", "table 81 1 1", "table 1 81 1", "table 1 1 81",
                     "table 9 9 9", "table 9 1 9", "table 9 9 1", "table 1 9 9"]:
            self.can_stand(f"task a {task}")
        for task in ["line 1 82", "line 82 1", "line 2 81", "line 81 2", "line 81 81", "table 82 1 1", "table 1 82 1",
                     "table 1 1 82", "table 9 10 1", "table 10 9 1", "table 1 9 10", "table 1 10 9", "table 9 1 10",
                     "table 10 1 9", "table 10 9 9", "table 9 9 10", "table 9 10 9", "line 999999999 999999999",
                     "table 999999999 999999999 999999999", "ring 999999999 +", "ring 82 -", "ring 81 +"]:
            self.can_not_stand(f"task a {task}", f"plain d {task}", f"least 2 {task}")

    def test_terms_of_a_task(self):
        # Just 1,000 terms, and the fewest above for which the lengths are within.
        for task in ["line 25 40", "line 40 25", "ring 31 +", "ring 31 -", "line 16 62"]:
            self.can_stand(f"task a {task}")
        for task in ["line 17 59", "line 59 17", "ring 32 +", "ring 32 -", "line 28 36", "line 41 41", "line 40 42"]:
            self.can_not_stand(f"task a {task}")

    def test_products_of_a_plain_scheme(self):
        for task in ["line 20 20", "ring 20 +", "ring 20 -", "table 8 5 10", "line 1 81", "table 81 1 1", "line 5 77"]:
            self.assertIn(self.told(f"plain d {task}", "times d"), [["400"], ["81"], ["385"]])
        for task in ["line 13 31", "line 20 21", "ring 21 +", "ring 21 -", "table 9 5 9", "table 9 9 9", "ring 31 +",
                     "line 25 40"]:
            self.can_not_stand(f"plain d {task}")
            self.can_stand(f"task a {task}")

    def test_lengths_of_what_is_made_within(self):
        rows = ["plain a table 9 1 1", "plain b table 10 1 1", "plain c table 1 1 9", "plain d table 1 1 10",
                "plain e table 1 9 1", "plain f table 1 10 1", "plain g table 8 1 1"]
        self.assertEqual(["81"], self.told(*rows, "within x a a", "times x"))
        self.assertEqual(["80"], self.told(*rows, "within x b g", "times x"))
        self.assertEqual(["81", "81"], self.told(*rows, "within x c c", "within y e e", "times x", "times y"))
        self.assertEqual(["81", "81"], self.told(*rows, "within x a c", "within y c a", "times x", "times y"))
        # Each of the three lengths beyond by itself, then several.
        for row in ["within x a f", "within x c f", "within x a d", "within x d a", "within x b c", "within x a b",
                    "within x b a", "within x b b", "within x c d", "within x d d", "within x e f", "within x f f"]:
            self.bad(7, *rows, row)

    def test_products_of_what_is_made_within(self):
        rows = ["plain a ring 4 +", "plain b ring 5 -", "pairs c 5", "plain d table 3 3 3", "seven e"]
        self.assertEqual(["400"], self.told(*rows, "within x a b", "times x"))
        self.assertEqual(["49"], self.told(*rows, "within x e e", "times x"))
        # 405 products, of lengths 45, 45 and 81.
        self.bad(5, *rows, "within x c d")
        self.bad(5, *rows, "within x d c")
        self.bad(5, *rows, "within x b b")
        # Far beyond: it isn't even tried.
        self.bad(2, "plain a line 20 20", "plain b ring 20 +", "within x a b")
        # 16 lengths of 4, 49 products; once more there are 343, of 64; and once more it's beyond.
        deep = ["seven e", "within f e e", "within g f e"]
        self.assertEqual(["343"], self.told(*deep, "times g"))
        self.bad(3, *deep, "within h g e")
        self.bad(3, *deep, "within h f f")

    def test_sizes_from_one(self):
        for number in WRONG_NUMBERS + ["0"]:
            self.can_not_stand(f"task a line {number} 2", f"task a line 2 {number}", f"task a table {number} 1 1",
                               f"task a table 1 {number} 1", f"task a table 1 1 {number}", f"task a ring {number} +",
                               f"plain d line {number} 2", f"plain d ring {number} -", f"least 2 line {number} 1")

    def test_words_of_a_task(self):
        for task in ["", "x 1 1", "Line 1 1", "lines 1 1", "2 2", "table 1 1", "table 1 1 1 1", "line 1", "line 1 1 1", "line",
                     "table", "ring", "ring 2", "ring + 2", "ring 2 1", "ring 2 -1", "ring 2 ++", "ring 2 + +", "ring 2 x",
                     "ring +", "ring 2 \u2212", "ring 2+", "ring 2 2 +"]:
            self.can_not_stand(f"plain d {task}", f"task a {task}", f"least 2 {task}")
        self.can_not_stand("plain d", "plain", "task a", "task", "least 2", "least", "long a", "long", "walked d", "walked",
                           "within d", "turned d", "turned", "pairs d", "pairs", "seven", "times", "show")


class Asks(Desk):
    def test_times_and_sums(self):
        self.assertEqual(["3", "4"], self.told("pairs a 2", "times a", "sums a"))
        self.assertEqual(["8", "4"], self.told("plain a table 2 2 2", "times a", "sums a"))
        self.assertEqual(["325", str(sums_in(by_pairs(25)))], self.told("pairs a 25", "times a", "sums a"))

    def test_task(self):
        rows = ["pairs a 2", "seven b", "plain c ring 3 -"]
        self.assertEqual(["yes"], self.told(*rows, "task a line 2 2"))
        self.assertEqual(["yes"], self.told(*rows, "task b table 2 2 2"))
        self.assertEqual(["yes"], self.told(*rows, "task c ring 3 -"))
        # The rings tell otherwise from left 1 and right 2 on.
        self.assertEqual(["no 1 2"], self.told(*rows, "task c ring 3 +"))
        # Other lengths.
        for task in ["line 2 3", "line 3 2", "ring 2 +", "table 2 2 2", "line 81 1"]:
            self.assertEqual(["no"], self.told(*rows, f"task a {task}"))
        self.assertEqual(["no 0 2", "no"], self.told(*rows, "task b ring 4 -", "task c table 1 3 1"))

    def test_task_with_ones_at_places_of_two_figures(self):
        self.assertEqual(["no 1 11", "yes"], self.told("plain a ring 12 +", "task a ring 12 -", "task a ring 12 +"))
        # Lengths 4, 4 and 4: a table's product is no ring's, from the first numbers that go elsewhere on.
        self.assertEqual(["no 0 2"], self.told("seven a", "task a ring 4 +"))

    def test_least(self):
        self.assertEqual(["least 5", "least 4", "open 5", "least 12"],
                         self.told("least 2 line 2 3", "least 3 line 2 3", "least 3 ring 3 +", "least 2 table 3 1 4"))
        for task, made in [("line 2 2", line_task(2, 2)), ("ring 2 -", ring_task(2, -1)), ("table 1 2 2", table_task(1, 2, 2))]:
            for p in (2, 3):
                word, number = least_over(made, p)[:2]
                self.assertEqual([f"{word} {number}"], self.told(f"least {p} {task}"))

    def test_least_over_other_numbers(self):
        self.can_not_stand("least 4 line 2 2", "least 1 line 2 2", "least 0 line 2 2", "least 5 line 2 2", "least 9 line 2 2",
                           "least -2 line 2 2", "least 02 line 2 2", "least 2 2 line 2 2", "least line 2 2", "least a line 2 2",
                           *[f"least {number} line 2 2" for number in WRONG_NUMBERS])

    def test_least_at_the_bounds(self):
        for task in ["line 2 6", "line 6 2", "line 3 4", "line 4 3", "line 1 6", "ring 3 +", "table 6 1 2", "table 1 2 3",
                     "table 3 2 1", "table 1 1 6", "table 2 1 6"]:
            self.can_stand(f"least 2 {task}")
        for task in ["line 3 3", "line 2 4", "line 4 2", "line 1 6", "line 6 1", "ring 3 -", "table 3 1 3", "table 1 2 2"]:
            self.can_stand(f"least 3 {task}")
        self.can_not_stand("least 2 line 1 7", "least 2 line 7 1", "least 2 line 3 5", "least 2 line 5 3", "least 2 ring 4 +",
                           "least 2 table 1 7 1", "least 2 table 7 1 1", "least 2 table 2 2 2", "least 2 table 1 2 4",
                           "least 2 line 4 4", "least 2 line 2 7", "least 3 line 1 7", "least 3 line 7 1", "least 3 line 2 5",
                           "least 3 line 5 2", "least 3 line 3 4", "least 3 line 4 3", "least 3 table 1 2 3", "least 3 ring 4 -",
                           "least 3 line 2 6")

    def test_show(self):
        self.assertEqual(["scheme 1 1 1 / 1:0 * 1:0 > 1:0"], self.told("pairs a 1", "show a"))
        self.assertEqual([shown(seven())], self.told("seven a", "show a"))


class Long(Desk):
    def test_answers(self):
        self.assertEqual(["408 3"], self.told("pairs a 2", "long a 2 10 12 34"))
        self.assertEqual(["0 1", "0 3", "81 1"], self.told("pairs a 2", "long a 2 10 0 0", "long a 2 10 10 0", "long a 2 10 9 9"))
        self.assertEqual(["408 4"], self.told("plain a line 2 2", "long a 2 10 12 34"))
        self.assertEqual(["408 1"], self.told("pairs a 2", "long a 2 1000 12 34"))
        ahead = ["pairs a 3", "plain b line 3 3", "walked c b 3 5 7", "mirrored d c"]
        for seed, x in enumerate(numbers(8, 5, 10 ** 15)):
            one, other, base = abs(x), abs(numbers(1, seed, 10 ** 11)[0]), [2, 10, 1000, 7][seed % 4]
            wanted = []
            for scheme in (by_pairs(3), plain(line_task(3, 3)), walked(plain(line_task(3, 3)), [3, 5, 7])[1]):
                product, times = long_product(scheme, 3, one, other, base)
                self.assertEqual(one * other, product)
                wanted.append(f"{product} {times}")
            self.assertEqual(wanted, self.told(*ahead, *[f"long {name} 3 {base} {one} {other}" for name in "abc"]))

    def test_factors_of_forty_figures(self):
        top = "9" * 40
        self.assertEqual([f"{int(top) ** 2} 729"], self.told("pairs a 2", f"long a 2 10 {top} {top}"))
        self.assertEqual([f"{int(top)} 729"], self.told("pairs a 2", f"long a 2 10 {top} 1"))
        self.assertEqual([f"{int(top)} 81"], self.told("pairs a 2", f"long a 2 1000 1 {top}"))
        self.can_not_stand(f"long a 2 1000 1 1{'0' * 40}", f"long a 2 1000 1{'0' * 40} 1", f"long a 2 10 {top}9 {top}",
                           f"long a 2 1000 1 {'9' * 5000}")

    def test_figures_are_written_plainly(self):
        for number in ["", "x", "00", "01", "+1", "-1", "-0", "1.0", "\u0661", "1\t"]:
            self.can_not_stand(f"long a 2 10 {number} 1", f"long a 2 10 1 {number}")
        for number in WRONG_NUMBERS:
            self.can_not_stand(f"long a {number} 10 1 1", f"long a 2 {number} 1 1")

    def test_a_scheme_that_does_not_do_that_line(self):
        rows = ["pairs a 2", "pairs b 3", "seven c", "plain d ring 2 +", "plain e line 2 3", "plain f line 3 2", "turned g a",
                "plain h table 1 2 2", "turned i b"]
        self.told(*rows, "long a 2 10 1 1", "long b 3 10 1 1")
        for row in ["long a 3 10 1 1", "long b 2 10 1 1", "long c 2 10 1 1", "long c 4 10 1 1", "long d 2 10 1 1",
                    "long e 2 10 1 1", "long e 3 10 1 1", "long f 2 10 1 1", "long f 3 10 1 1", "long g 2 10 1 1",
                    "long g 3 10 1 1", "long h 2 10 1 1", "long i 3 10 1 1", "long a 999999999 10 1 1", "long a 1 10 1 1",
                    "long a 0 10 1 1"]:
            self.bad(9, *rows, row)

    def test_a_scheme_of_the_lines_lengths_that_does_another_task(self):
        # Lengths 2, 4, 5 within 4, 2, 3: they are those of the line of eight, but the task isn't.
        rows = ["plain a line 2 4", "plain b line 2 3", "turned c b", "turned d c", "within e a d"]
        self.assertEqual(["no 0 1"], self.told(*rows, "task e line 8 8"))
        self.bad(5, *rows, "long e 8 10 1 1")
        # By one line of one number, told 1: lengths (1, 1, 1), but N of 1 is below 2.
        self.bad(1, "pairs a 1", "long a 1 10 1 1")
        self.bad(1, "plain a line 1 1", "long a 1 10 3 4")

    def test_bases(self):
        self.assertEqual(["6 3", "6 1"], self.told("pairs a 2", "long a 2 2 2 3", "long a 2 1000 2 3"))
        self.can_stand("long a 2 2 1 1", "long a 2 3 1 1", "long a 2 999 1 1", "long a 2 1000 1 1")
        self.can_not_stand("long a 2 1 1 1", "long a 2 0 1 1", "long a 2 1 0 0", "long a 2 1001 1 1", "long a 2 1010 1 1",
                           "long a 2 999999999 1 1", "long a 2 10000 1 1")

    def test_sixty_figures(self):
        top = 2 ** 60 - 1
        self.assertEqual([f"{top * top} 729", f"{top} 729", f"{top} 729"],
                         self.told("pairs a 2", f"long a 2 2 {top} {top}", f"long a 2 2 1 {top}", f"long a 2 2 {top} 1"))
        self.can_not_stand(f"long a 2 2 {top + 1} 1", f"long a 2 2 1 {top + 1}", f"long a 2 2 {top + 1} {top + 1}",
                           f"long a 2 2 {'9' * 40} 0", f"long a 2 4 {4 ** 60} 1", f"long a 2 3 {3 ** 60} 3")
        self.can_stand(f"long a 2 4 {4 ** 60 - 1} 1", f"long a 2 3 {3 ** 60 - 1} 0")

    def test_how_many_multiplyings(self):
        # 136 products twice are 18,496; 153 twice are 23,409; 28 thrice are 21,952.
        one = 10 ** 17
        self.assertEqual([f"{one} 18496"], self.told("pairs a 16", f"long a 16 10 {one} 1"))
        self.bad(1, "pairs a 17", f"long a 17 10 {one} 1")
        self.assertEqual([f"{10 ** 16} 153"], self.told("pairs a 17", f"long a 17 10 {10 ** 16} 1"))
        self.bad(1, "pairs a 7", f"long a 7 2 {2 ** 49} 1")
        self.assertEqual([f"{2 ** 48} 784"], self.told("pairs a 7", f"long a 7 2 {2 ** 48} 1"))
        self.assertEqual([f"{2 ** 59} 15625"], self.told("plain a line 5 5", f"long a 5 2 {2 ** 59} 1"))
        self.assertEqual(["1 1"], self.told("plain a line 20 20", "long a 20 10 1 1"))
        self.assertEqual(["10 400"], self.told("plain a line 20 20", "long a 20 10 10 1"))
        self.bad(1, "plain a line 20 20", f"long a 20 10 1 {10 ** 20}")

    def test_just_below_and_just_above_20000(self):
        # Of squares 141 * 141 is the last one below, 142 * 142 the first one above.
        self.assertEqual((19881, 20164), (times_for(141, 12, 13), times_for(142, 12, 13)))
        rows, scheme = ["plain a line 12 12"], plain(line_task(12, 12))
        for name, (i, j) in zip("bcd", [(0, 1), (2, 3), (4, 5)]):
            chosen, scheme = put_together(scheme, i, j)
            rows.append(f"walked {name} {'abc'['bcd'.index(name)]} " + " ".join(str(number) for number in chosen))
        self.assertEqual(["144", "143", "142", "141", "yes"],
                         self.told(*rows, "times a", "times b", "times c", "times d", "task d line 12 12"))
        top = 10 ** 20 + 7
        self.assertEqual([f"{top * 12345} 19881"], self.told(*rows, f"long d 12 10 {top} 12345"))
        self.bad(4, *rows, f"long c 12 10 {top} 12345")
        self.bad(4, *rows, f"long a 12 10 {top} 12345")


def single(length, at):
    """A part of noughts with a single 1."""
    return tuple(int(place == at) for place in range(length))


def put_together(scheme, i, j):
    """The numbers of two flips that make one product fewer of the four that i and j have, and what they lead to."""
    chosen, n = [], scheme[0]

    def number_of(left, right):
        return [at for at, (l, r, o) in enumerate(scheme[3]) if (l, r) == (left, right)][0]
    one, other = single(n, i), single(n, j)
    for parts, side in [(((one, other), (one, one)), 0),
                        (((one, tuple(x + y for x, y in zip(one, other))), (other, one)), 2)]:
        flip = (number_of(*parts[0]), number_of(*parts[1]), side)
        chosen.append(flips(scheme).index(flip))
        scheme = tidied(flipped(scheme, flip))
    return chosen, scheme


if __name__ == "__main__":
    unittest.main()
