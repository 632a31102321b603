"""Point 80: deeds as texts."""

import random
import unittest

from fogfleet.deeds import format_deeds, parse_deeds
from fogfleet.errors import BadText, FleetError

LINES = [
    (("report", 1, 4, (2, 3), True, 5), "report 1 at 4 in 2,3 weight 5"),
    (("report", 1, 4, (), False, 1), "report 1 at 4 out - weight 1"),
    (("receive", 2, 1, 9, (True, False)), "receive 2 event 1 at 9 yn"),
    (("withdraw", 3), "withdraw 3"),
    (("report", 0, 0, tuple(range(12)), True, 99), "report 0 at 0 in 0,1,2,3,4,5,6,7,8,9,10,11 weight 99"),
    (("report", 3, 999, (11,), False, 10), "report 3 at 999 out 11 weight 10"),
    (("receive", 0, 0, 0, (True,)), "receive 0 event 0 at 0 y"),
    (("receive", 5, 6, 999, (False, False, False, False)), "receive 5 event 6 at 999 nnnn"),
    (("withdraw", 0), "withdraw 0"),
    (("withdraw", 999), "withdraw 999"),
]
DEEDS = [deed for deed, _ in LINES]


def random_deed(dice):
    word = dice.choice(["report", "receive", "withdraw"])
    hour = dice.choice([0, 9, 10, 99, 100, 999, dice.randint(0, 999)])
    if word == "report":
        zone = tuple(place for place in range(12) if dice.random() < 0.3)
        return (word, dice.randint(0, 3), hour, zone, dice.random() < 0.5, dice.randint(1, 99))
    if word == "receive":
        flags = tuple(dice.random() < 0.5 for _ in range(dice.randint(1, 4)))
        return (word, dice.randint(0, 5), dice.randint(0, 6), hour, flags)
    return (word, hour)


class FormatTest(unittest.TestCase):
    def test_lines(self):
        for deed, line in LINES:
            self.assertEqual(format_deeds([deed]), line)
            self.assertEqual(format_deeds((deed,)), line)

    def test_texts(self):
        self.assertEqual(format_deeds([]), "")
        self.assertEqual(format_deeds(DEEDS), "\n".join(line for _, line in LINES))


class ParseTest(unittest.TestCase):
    def test_lines(self):
        for deed, line in LINES:
            found = parse_deeds(line)
            self.assertEqual(found, [deed])
            self.assertIs(type(found), list)
            self.assertIs(type(found[0]), tuple)
            self.assertEqual([type(part) for part in found[0]], [type(part) for part in deed])

    def test_texts(self):
        self.assertEqual(parse_deeds(""), [])
        self.assertEqual(parse_deeds("\n".join(line for _, line in LINES)), DEEDS)

    def test_deeds_are_given_back(self):
        dice = random.Random(0)
        for _ in range(500):
            deeds = [random_deed(dice) for _ in range(dice.randint(0, 6))]
            self.assertEqual(parse_deeds(format_deeds(deeds)), deeds)


class BadTextTest(unittest.TestCase):
    def refuse(self, line, text):
        with self.assertRaises(BadText) as caught:
            parse_deeds(text)
        self.assertEqual(caught.exception.line, line, text)
        self.assertIsInstance(caught.exception, FleetError)

    def refuse_line(self, wrong):
        self.refuse(1, wrong)
        self.refuse(1, wrong + "\n" + wrong)
        self.refuse(2, f"withdraw 3\n{wrong}")
        self.refuse(3, f"withdraw 3\nwithdraw 3\n{wrong}\nwithdraw 3\n{wrong}")

    def test_empty_lines(self):
        self.refuse(1, "\n")
        self.refuse(1, "\n\n\n")
        self.refuse(2, "withdraw 3\n")
        self.refuse(1, "\nwithdraw 3")
        self.refuse(2, "withdraw 3\n\nwithdraw 3")
        self.refuse(1, " ")

    def test_words_too_few_too_many_and_empty(self):
        for _, line in LINES:
            words = line.split(" ")
            for at in range(len(words) + 1):
                self.refuse_line(" ".join(words[:at] + [""] + words[at:]))
                self.refuse_line(" ".join(words[:at] + ["at"] + words[at:]))
                if at < len(words):
                    self.refuse_line(" ".join(words[:at] + words[at + 1:]) or " ")
                    self.refuse_line(" ".join(words[:at + 1]) if at + 1 < len(words) else "again")

    def test_other_words(self):
        for _, line in LINES:
            words = line.split(" ")
            for at, word in enumerate(words):
                for other in ("?", word.upper(), word.title(), word + ",", word + "x", "x" + word, word[:-1] + "%"):
                    if other != word:
                        self.refuse_line(" ".join(words[:at] + [other] + words[at + 1:]))

    def test_numbers(self):
        numbers = ["", "00", "01", "007", "+1", "-1", "1.0", "1e1", "1_0", "x", "1000", "9" * 5000, "1,", "-"]
        for number in numbers:
            for ship in (number, "4", "10"):
                self.refuse_line(f"report {ship} at 4 in 2,3 weight 5")
            for zone in ("12", "99", "3,2", "2,2", "2,", ",2", "2,,3", "-,2", "--", "1;2",
                         "0,1,2,3,4,5,6,7,8,9,10,11,12", number if number != "-" else "2,-"):
                self.refuse_line(f"report 1 at 4 in {zone} weight 5")
                self.refuse_line(f"report 1 at 4 out {zone} weight 5")
            for weight in (number, "0", "100"):
                self.refuse_line(f"report 1 at 4 in 2,3 weight {weight}")
            for letter in (number, "6", "10"):
                self.refuse_line(f"receive {letter} event 1 at 9 yn")
            for event in (number, "7", "10"):
                self.refuse_line(f"receive 2 event {event} at 9 yn")
            self.refuse_line(f"report 1 at {number} in 2,3 weight 5")
            self.refuse_line(f"receive 2 event 1 at {number} yn")
            self.refuse_line(f"withdraw {number}")

    def test_flags(self):
        for flags in ("", "yynny", "nnnnn", "Y", "N", "yN", "y,n", "y n", "1", "t", "x", "yx", "-", "~", "yes"):
            self.refuse_line(f"receive 2 event 1 at 9 {flags}")
        for flags in ("y", "n", "yn", "nyn", "ynyn"):
            self.assertEqual(parse_deeds(f"receive 2 event 1 at 9 {flags}")[0][4],
                             tuple(flag == "y" for flag in flags))

    def test_limits(self):
        for weight in (1, 99):
            self.assertEqual(parse_deeds(f"report 1 at 4 in 2 weight {weight}")[0][5], weight)


if __name__ == "__main__":
    unittest.main()
