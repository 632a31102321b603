"""Points 12 and 13: the text of a chart."""

import random
import re
import unittest

from fogfleet.chart import Chart
from fogfleet.charttext import format_chart, parse_chart
from fogfleet.errors import BadText
from tests.helpers import all_pairs, full_chart, line_chart, random_chart, small_chart

SMALL = "depths 5 3 8\ntide 0 2\nharbours 2\nlane 0 1\nlane 1 2"
NUMBER = "(?:0|[1-9][0-9]{0,5})"


def numbers_of(line, word):
    """The numbers of a right line of this word, or None."""
    if re.fullmatch(f"{word}(?: {NUMBER})*", line) is None or "\n" in line:
        return None
    return [int(found) for found in line.split(" ")[1:]]


def right_line(lines, line):
    """Tell whether a line is right after right lines (counted from 1)."""
    word = ["depths", "tide", "harbours"][line - 1] if line <= 3 else "lane"
    numbers = numbers_of(lines[line - 1], word)
    if numbers is None:
        return False
    if line <= 2:
        return 1 <= len(numbers) <= 12 and max(numbers) <= (99, 20)[line - 1]
    if any(number >= len(lines[0].split(" ")) - 1 for number in numbers):
        return False
    ascending = all(a < b for a, b in zip(numbers, numbers[1:]))
    if line == 3:
        return ascending
    before = numbers_of(lines[line - 2], "lane") if line > 4 else [-1, -1]
    return ascending and len(numbers) == 2 and before < numbers


def reference_line(text):
    """The number of the line that BadText names, or None for the text of a chart."""
    lines = text.split("\n")
    for line in range(1, len(lines) + 1):
        if not right_line(lines, line):
            return line
    return None if len(lines) >= 3 else len(lines) + 1


def parts(chart):
    return (chart.depths, chart.lanes, chart.tide, chart.harbours, chart.size)


class FormatTest(unittest.TestCase):
    def test_example_of_the_document(self):
        self.assertEqual(format_chart(small_chart()), SMALL)

    def test_no_harbour_and_no_lane(self):
        self.assertEqual(format_chart(Chart([7], [])), "depths 7\ntide 0\nharbours")

    def test_everything_in_ascending_order(self):
        chart = Chart([0, 10, 99], [(2, 1), (2, 0), (1, 0)], tide=(20, 0, 10), harbours=(2, 0, 1))
        self.assertEqual(format_chart(chart), "depths 0 10 99\ntide 20 0 10\nharbours 0 1 2\n"
                                              "lane 0 1\nlane 0 2\nlane 1 2")

    def test_lanes_are_ordered_as_numbers(self):
        lanes = [(11, 2), (10, 2), (2, 3), (0, 10), (9, 0)]
        lines = format_chart(Chart([1] * 12, lanes)).split("\n")[3:]
        self.assertEqual(lines, ["lane 0 9", "lane 0 10", "lane 2 3", "lane 2 10", "lane 2 11"])


class RoundTripTest(unittest.TestCase):
    def test_many_charts(self):
        charts = [random_chart(seed, most=12, deepest=99) for seed in range(200)]
        charts += [full_chart(), line_chart(), Chart([0], [])]
        charts.append(Chart([99] * 12, all_pairs(12), tide=[20] * 12, harbours=range(12)))
        for chart in charts:
            text = format_chart(chart)
            parsed = parse_chart(text)
            self.assertIsInstance(parsed, Chart)
            self.assertEqual(parts(parsed), parts(chart))
            self.assertEqual(format_chart(parsed), text)
            self.assertIsNone(reference_line(text))

    def test_a_parsed_chart_can_be_used(self):
        chart = parse_chart(SMALL)
        self.assertEqual((chart.water(1, 3), chart.low_water(2)), (5, 8))
        self.assertEqual((chart.neighbours(1), chart.is_harbour(2)), ([0, 2], True))


class BadTextTest(unittest.TestCase):
    def refuse(self, text, line):
        with self.assertRaises(BadText) as caught:
            parse_chart(text)
        self.assertEqual(caught.exception.line, line, repr(text[:200]))

    def with_line(self, line, words):
        """The small text with another line in the place of one."""
        lines = SMALL.split("\n")
        lines[line - 1] = words
        return "\n".join(lines)

    def test_wrong_lines(self):
        many = "9" * 5000
        wrong = {
            1: ["", "depths", "depth 5 3 8", "Depths 5 3 8", "depths 5 3 100", "depths 5 3 08",
                "depths 5  3 8", " depths 5 3 8", "depths 5 3 8 ", "depths +5 3 8", "depths -5 3 8",
                "depths 5 3 " + many, "depths 5 3 x", "depths 5,3,8", "depths" + " 1" * 13,
                "depths 5 3 8 00", "tide 5 3 8", "depths 5 3 -0", "5 3 8", "depths5 3 8",
                "depths 5 3 0x8", "depths 1_0 3 8", "depths 5 3 8.", "depths 5 3 " + "0" * 5000],
            2: ["", "tide", "tide 21", "tide -1", "tide 00", "tide 0 2 ", "tide  0 2", "tides 0",
                "tide" + " 0" * 13, "tide 0 02", "tide " + many, "harbours 2", "tide 0 +2"],
            3: ["", "harbours ", "harbours 3", "harbours 2 2", "harbours 2 1", "harbour 2",
                "harbours 0 1 2 2", "harbours 02", "harbours -1", "harbours " + many, "lane 0 1",
                "harbours 1  2", " harbours", "harbours 0 2 1", "harbours 1,2"],
            4: ["", "lane", "lane 0", "lane 0 1 2", "lane 1 0", "lane 0 0", "lane 0 3", "lane 3 4",
                "lanes 0 1", "lane 0 1 ", "lane  0 1", "lane 00 1", "lane 0 " + many, "lane 0 -1",
                "lane -1 0", "harbours 2", "lane 0,1", "LANE 0 1"],
            5: ["", "lane 0 1", "lane 1 1", "lane 2 1", "lane 1 3", "lane", "lane 1 2 ", "tide 0 2",
                "lane 1 2 2", "lane 01 2"],
        }
        for line, rows in wrong.items():
            for words in rows:
                self.refuse(self.with_line(line, words), line)

    def test_lanes_out_of_order(self):
        start = "depths 1 1 1 1\ntide 0\nharbours\n"
        self.refuse(start + "lane 1 2\nlane 0 1", 5)
        self.refuse(start + "lane 0 2\nlane 0 1", 5)
        self.refuse(start + "lane 0 1\nlane 0 2\nlane 2 3\nlane 1 3", 7)
        self.refuse(start + "lane 0 1\nlane 0 2\nlane 0 2", 6)
        self.refuse("depths" + " 1" * 12 + "\ntide 0\nharbours\nlane 0 10\nlane 0 9", 5)
        self.refuse("depths" + " 1" * 12 + "\ntide 0\nharbours 10 9", 3)

    def test_missing_lines(self):
        self.refuse("", 1)
        self.refuse("depths 5 3 8", 2)
        self.refuse("depths 5 3 8\ntide 0 2", 3)
        self.refuse("depths 5 3 8\nharbours 2", 2)
        self.refuse("tide 0 2\nharbours 2", 1)
        self.refuse("depths 5 3 100", 1)
        self.refuse("depths 5 3 8\ntide 99", 2)

    def test_line_feeds_too_many(self):
        self.refuse(SMALL + "\n", 6)
        self.refuse("\n" + SMALL, 1)
        self.refuse("\n", 1)
        self.refuse("depths 5\n", 2)
        self.refuse("depths 5\ntide 0\n", 3)
        self.refuse("depths 5\ntide 0\nharbours\n", 4)
        self.refuse(SMALL.replace("\nlane 0", "\n\nlane 0"), 4)
        self.refuse(SMALL.replace("\ntide", "\n\ntide"), 2)

    def test_the_first_wrong_line_is_named(self):
        self.refuse("depths 5 3 8\ntide 21\nharbours 9\nlane 1 0", 2)
        self.refuse("depths 5 3 8\ntide 20\nharbours 9\nlane 1 0", 3)
        self.refuse("depths 5 3 8\ntide 20\nharbours\nlane 1 0\nlane 0 0", 4)
        self.refuse("depths 5 3 8\ntide 20\nharbours\nlane 0 1\nlane 0 1\n", 5)

    def test_the_places_are_those_of_the_first_line(self):
        parse_chart("depths 5 3\ntide 0\nharbours 1\nlane 0 1")
        self.refuse("depths 5\ntide 0\nharbours 1\nlane 0 1", 3)
        self.refuse("depths 5\ntide 0\nharbours 0\nlane 0 1", 4)

    def test_texts_that_differ_by_a_character(self):
        texts = [SMALL, "depths 10 9 0 12\ntide 20 1\nharbours 0 3\nlane 0 1\nlane 0 3\nlane 2 3"]
        for text in texts:
            for at in range(len(text) + 1):
                self.check(text[:at] + text[at + 1:])
                for sign in " 0129dl\n-+":
                    self.check(text[:at] + sign + text[at:])
                    self.check(text[:at] + sign + text[at + 1:])

    def test_texts_that_differ_by_a_word_or_a_line(self):
        dice = random.Random(13)
        words = ["", "depths", "tide", "harbours", "lane", "0", "1", "2", "11", "12", "21", "100"]
        for seed in range(150):
            lines = format_chart(random_chart(seed, most=12)).split("\n")
            at = dice.randrange(len(lines))
            row = lines[at].split(" ")
            place = dice.randrange(len(row))
            changed = [
                row[:place] + row[place + 1:], row[:place] + [dice.choice(words)] + row[place:],
                row[:place] + [dice.choice(words)] + row[place + 1:], row[:1] + row[:0:-1],
            ]
            for other in changed:
                self.check("\n".join(lines[:at] + [" ".join(other)] + lines[at + 1:]))
            self.check("\n".join(lines[:at] + lines[at + 1:]))
            self.check("\n".join(lines[:at + 1] + lines[at:]))
            self.check("\n".join(lines[:at] + lines[at:][::-1]))

    def check(self, text):
        line = reference_line(text)
        if line is None:
            self.assertEqual(format_chart(parse_chart(text)), text)
        else:
            self.refuse(text, line)


if __name__ == "__main__":
    unittest.main()
