"""Points 52 and 53: claims as lines."""

import itertools
import random
import unittest

from fogfleet.claims import format_claim, parse_claim
from fogfleet.errors import BadClaim, FleetError

AGENTS = [f"k{number}" for number in range(10)] + [f"s{number}" for number in range(4)]
FACTS = [
    (("in", 1, 4, (2, 3)), "ship 1 in 2,3 at 4"),
    (("out", 1, 4, (2, 3)), "ship 1 out 2,3 at 4"),
    (("together", 0, 1, 4), "ships 0,1 together at 4"),
    (("apart", 0, 1), "ships 0,1 apart"),
    (("by", 2, 1, 7), "letter 2 event 1 by 7"),
    (("from", 2, 1, 7), "letter 2 event 1 from 7"),
    (("holds", "k1", 7, 2), "k1 at 7 holds 2"),
    (("in", 0, 0, ()), "ship 0 in - at 0"),
    (("out", 3, 999, tuple(range(12))), "ship 3 out 0,1,2,3,4,5,6,7,8,9,10,11 at 999"),
    (("together", 3, 2, 24), "ships 3,2 together at 24"),
    (("apart", 2, 0), "ships 2,0 apart"),
    (("by", 5, 6, 100), "letter 5 event 6 by 100"),
    (("from", 0, 0, 0), "letter 0 event 0 from 0"),
    (("holds", "s3", 96, 5), "s3 at 96 holds 5"),
    (("in", 2, 10, (11,)), "ship 2 in 11 at 10"),
]
CHAINS = [
    ([], ""),
    ([("k1", 3)], "k1@3 knows "),
    ([("k1", 3), ("s0", 5)], "k1@3 knows s0@5 knows "),
    ([("s3", 999), ("k0", 0), ("k9", 10), ("s0", 96), ("k1", 100), ("k1", 100)],
     "s3@999 knows k0@0 knows k9@10 knows s0@96 knows k1@100 knows k1@100 knows "),
]


def words_of_agents():
    return [f"{agent}@{hour}" for agent in AGENTS for hour in (0, 9, 10, 99, 100, 999)]


class FormatTest(unittest.TestCase):
    def test_facts_and_chains(self):
        for chain, start in CHAINS:
            for fact, line in FACTS:
                self.assertEqual(format_claim(chain, fact), start + line)
                self.assertEqual(format_claim(tuple(chain), fact), start + line)

    def test_the_example(self):
        self.assertEqual(format_claim([("k1", 3), ("s0", 5)], ("in", 1, 4, (2, 3))),
                         "k1@3 knows s0@5 knows ship 1 in 2,3 at 4")


class ParseTest(unittest.TestCase):
    def test_facts_and_chains(self):
        for chain, start in CHAINS:
            for fact, line in FACTS:
                answer = parse_claim(start + line)
                self.assertEqual(answer, (chain, fact))
                self.assertIs(type(answer), tuple)
                self.assertIs(type(answer[0]), list)
                self.assertIs(type(answer[1]), tuple)
                self.assertEqual([type(part) for part in answer[1]], [type(part) for part in fact])

    def test_the_example(self):
        self.assertEqual(parse_claim("k1@3 knows ships 0,2 apart"), ([("k1", 3)], ("apart", 0, 2)))

    def test_all_agents(self):
        for agent in AGENTS:
            self.assertEqual(parse_claim(f"{agent}@12 knows {agent} at 12 holds 0"),
                             ([(agent, 12)], ("holds", agent, 12, 0)))

    def test_many_claims(self):
        dice = random.Random(0)
        for _ in range(2000):
            chain = [(dice.choice(AGENTS), self.hour(dice)) for _ in range(dice.randint(0, 6))]
            fact = self.fact(dice)
            self.assertEqual(parse_claim(format_claim(chain, fact)), (chain, fact))

    def hour(self, dice):
        return dice.choice([0, 1, 9, 10, 24, 99, 100, 999, dice.randint(0, 999)])

    def fact(self, dice):
        first, second = dice.sample(range(4), 2)
        zone = tuple(place for place in range(12) if dice.random() < 0.4)
        letter, hour = dice.randint(0, 5), self.hour(dice)
        return dice.choice([
            ("in", first, hour, zone), ("out", first, hour, zone), ("together", first, second, hour),
            ("apart", first, second), ("by", letter, dice.randint(0, 6), hour),
            ("from", letter, dice.randint(0, 6), hour), ("holds", dice.choice(AGENTS), hour, letter)])


class BadClaimTest(unittest.TestCase):
    def refuse(self, word, line):
        with self.assertRaises(BadClaim) as caught:
            parse_claim(line)
        self.assertEqual(caught.exception.word, word, line)
        self.assertIsInstance(caught.exception, FleetError)

    def test_empty_words(self):
        self.refuse(1, "")
        self.refuse(1, " ")
        self.refuse(1, "     ")
        for chain, start in CHAINS:
            for fact, line in FACTS:
                words = (start + line).split(" ")
                for at in range(len(words) + 1):
                    spaced = words[:at] + [""] + words[at:]
                    self.refuse(at + 1, " ".join(spaced))

    def test_a_line_that_ends_too_early(self):
        for chain, start in CHAINS:
            for fact, line in FACTS:
                words = (start + line).split(" ")
                for many in range(1, len(words)):
                    self.refuse(many + 1, " ".join(words[:many]))

    def test_one_word_too_many(self):
        for chain, start in CHAINS:
            for fact, line in FACTS:
                words = (start + line).split(" ")
                for more in ("at", "4", "knows", "k1@3", "k1", "ship", "-"):
                    self.refuse(len(words) + 1, f"{start}{line} {more}")
                    self.refuse(len(words) + 1, f"{start}{line} {more} {more}")

    def test_a_seventh_link(self):
        start = CHAINS[-1][1]
        self.refuse(13, start + "k1@3 knows ship 1 in 2,3 at 4")
        self.refuse(13, start + "k1@3")
        self.refuse(14, start + "k1")
        self.assertEqual(len(parse_claim(start + "k1 at 3 holds 0")[0]), 6)

    def test_first_words(self):
        for word in ("k", "k10", "k01", "s4", "s9", "s", "K1", "S0", "1k", "k-1", "knows", "at", "in", "Ship",
                     "SHIPS", "Letter", "letters", "ship,", "0", "-", "k1@", "@3", "@", "k1@@3", "k1@3@4", "k1@-3",
                     "k1@+3", "k1@03", "k1@00", "k1@1000", "k1@0999", "k10@3", "s4@3", "K1@3", "ship@3",
                     "k1@3.", "k1@three", "k1@3,4", "~", "k1@ 3", "s3@999999", "k1#3", "k1@" + "9" * 5000):
            self.refuse(1, f"{word} knows ship 1 in 2,3 at 4")
            self.refuse(3, f"s0@1 knows {word} knows ship 1 in 2,3 at 4")

    def test_knows(self):
        for word in ("Knows", "KNOWS", "know", "knows,", "ship", "k1@3", "at"):
            self.refuse(2, f"k1@3 {word} ship 1 in 2,3 at 4")
            self.refuse(4, f"k1@3 knows s0@5 {word} ship 1 in 2,3 at 4")
        self.refuse(1, "knows ship 1 in 2,3 at 4")
        self.refuse(3, "k1@3 knows knows ship 1 in 2,3 at 4")

    def test_wrong_numbers(self):
        numbers = ["", "00", "01", "007", "+1", "-1", "1.0", "1e1", "0x1", "1_0", "x", "1000", "9999", "12345",
                   "9" * 5000, "one", "1,"]
        for start, many in (("", 0), ("k1@3 knows ", 2), (CHAINS[-1][1], 12)):
            for number in numbers:
                for ship in (number, "4", "9", "10", "999"):
                    self.refuse(many + 2, f"{start}ship {ship} in 2,3 at 4")
                    self.refuse(many + 2, f"{start}ships {ship},1 apart")
                    self.refuse(many + 2, f"{start}ships 1,{ship} apart")
                self.refuse(many + 6, f"{start}ship 1 in 2,3 at {number}")
                self.refuse(many + 5, f"{start}ships 0,1 together at {number}")
                for letter in (number, "6", "7", "10"):
                    self.refuse(many + 2, f"{start}letter {letter} event 1 by 7")
                    self.refuse(many + 5, f"{start}k1 at 7 holds {letter}")
                for event in (number, "7", "8", "10"):
                    self.refuse(many + 4, f"{start}letter 2 event {event} by 7")
                self.refuse(many + 6, f"{start}letter 2 event 1 from {number}")
                self.refuse(many + 3, f"{start}k1 at {number} holds 2")
                for place in (number, "12", "13", "99"):
                    for zone in (place, f"{place},11", f"0,{place}", f"0,{place},11"):
                        if zone not in ("1,,11", "0,1,"):
                            self.refuse(many + 4, f"{start}ship 1 in {zone} at 4")

    def test_wrong_zones(self):
        for zone in ("3,2", "2,2", "0,1,1", "0,2,1", ",", ",1", "1,", "1,,2", "1,2,", "--", "-,1", "1,-", "1;2", "1.2",
                     "{1}", "0,1,2,3,4,5,6,7,8,9,10,11,12", "10,9", "all", "1-2"):
            self.refuse(4, f"ship 1 in {zone} at 4")
            self.refuse(4, f"ship 1 out {zone} at 4")
        self.refuse(4, "ship 1 in 1, 2 at 4")

    def test_wrong_ships(self):
        for ships in ("0", "0,0", "3,3", "0,1,2", "0,1,0", "0,", ",1", ",", "-", "0-1", "0;1", "0,,1", "0,4"):
            self.refuse(2, f"ships {ships} apart")
            self.refuse(2, f"ships {ships} together at 4")
        self.refuse(2, "ship 0,1 apart")
        self.refuse(2, "ship 0,1 in 2 at 4")
        self.refuse(2, "ships 0 apart")
        self.refuse(2, "ships 0 in 2 at 4")
        self.refuse(2, "ships 0, 1 apart")

    def test_wrong_words_of_facts(self):
        for line, word in (
                ("ship 1 In 2 at 4", 3), ("ship 1 at 4", 3), ("ship 1 inside 2 at 4", 3), ("ship 1 apart", 3),
                ("ship 1 in at 4", 4), ("ship 1 in 2 on 4", 5), ("ship 1 in 2 4", 5), ("ship 1 in 2 At 4", 5),
                ("ships 0,1 in 2 at 4", 3), ("ships 0,1 Apart", 3), ("ships 0,1 together 4", 4),
                ("ships 0,1 apart at 4", 4), ("ships 0,1 together on 4", 4), ("letter 2 by 7", 3),
                ("letter 2 events 1 by 7", 3), ("letter 2 event 1 at 7", 5), ("letter 2 event 1 7", 5),
                ("letter 2 event 1 By 7", 5), ("letter 2 event by 7", 4), ("k1 holds 2", 2), ("k1 at 7 hold 2", 4),
                ("k1 at 7 Holds 2", 4), ("k1 on 7 holds 2", 2), ("k1 at holds 2", 3), ("k1 knows 2", 2),
                ("k1 at 7 holds letter 2", 5), ("s3 at 7 2", 4)):
            self.refuse(word, line)
            self.refuse(word + 2, "k1@3 knows " + line)

    def test_other_characters(self):
        for sign in map(chr, range(33, 127)):
            if sign not in "-0123456789":
                self.refuse(4, f"ship 1 in {sign} at 4")
            if sign != "@":
                self.refuse(1, f"k1{sign}3 knows ships 0,1 apart")
            self.refuse(1, f"{sign}ship 1 in 2 at 4")
            self.refuse(4, f"ship 1 in 2{sign} at 4")
            self.refuse(5, f"ship 1 in 2 {sign}at 4")
            self.refuse(5, f"ship 1 in 2 at{sign} 4")

    def test_the_first_wrong_word_counts(self):
        for chain, start in CHAINS:
            for fact, line in FACTS:
                words = (start + line).split(" ")
                for first, second in itertools.combinations(range(len(words)), 2):
                    wrong = list(words)
                    wrong[first] = wrong[second] = "?"
                    self.refuse(first + 1, " ".join(wrong))

    def test_lines_of_all_short_words(self):
        """Lines with one word exchanged for another one of some claim, against a list of all claims."""
        pool = sorted({word for _, line in FACTS for word in line.split(" ")} | {"k1@3", "knows"})
        right = {line for _, line in FACTS}
        for _, line in FACTS:
            words = line.split(" ")
            for at in range(len(words)):
                for word in pool:
                    other = " ".join(words[:at] + [word] + words[at + 1:])
                    try:
                        chain, fact = parse_claim(other)
                    except BadClaim as error:
                        self.assertGreaterEqual(error.word, at + 1)
                        self.assertNotIn(other, right)
                    else:
                        self.assertEqual(format_claim(chain, fact), other)

    def test_number_words_of_agents(self):
        for word in words_of_agents():
            agent, hour = word.split("@")
            self.assertEqual(parse_claim(f"{word} knows ships 0,1 apart")[0], [(agent, int(hour))])


if __name__ == "__main__":
    unittest.main()
