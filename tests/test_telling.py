"""Points 24 and 25: telling lights apart, and the readings of a word."""

import itertools
import math
import random
import unittest

from fogfleet.lights import Light
from fogfleet.telling import agreeing_shifts, certain_light, readings, telling_length

# Lights that differ only after as many hours as point 24 allows, by their patterns.
LATE = [
    ("*.", "*.."), ("*.*", "*.*.*"), ("**.", "**.**.*."), (".*..", ".*...."),
    ("*", "***********."), ("***********.", "**********."), ("*.*.*", "*.*.*.*"),
]


def patterns(longest):
    for length in range(1, longest + 1):
        for signs in itertools.product("*.", repeat=length):
            yield "".join(signs)


def shown(pattern, shift, count):
    return (pattern * (count + 1))[shift:shift + count]


def slow_shifts(p, q, count):
    for i, j in itertools.product(range(len(p)), range(len(q))):
        if shown(p, i, count) == shown(q, j, count):
            return (i, j)
    return None


def slow_length(p, q):
    """The least length at which no shifts agree; lights that agree for 200 hours are alike."""
    if slow_shifts(p, q, 200) is not None:
        return None
    return next(count for count in range(1, 200) if slow_shifts(p, q, count) is None)


def greatest_length(p, q):
    return len(p) + len(q) - math.gcd(len(p), len(q))


def lights_of(*rows):
    return [Light(place, pattern) for place, pattern in enumerate(rows)]


class AgreeingShiftsTest(unittest.TestCase):
    def shifts(self, p, q, count):
        return agreeing_shifts(Light(0, p), Light(1, q), count)

    def test_example_of_the_document(self):
        self.assertEqual(self.shifts("*.", "*..", 3), (1, 2))

    def test_no_hours_and_many_hours(self):
        self.assertEqual(self.shifts("*", ".", 0), (0, 0))
        self.assertEqual(self.shifts("*.*", "..", 0), (0, 0))
        self.assertEqual(self.shifts("*.", "*.", 60), (0, 0))
        self.assertEqual(self.shifts("*.", ".*", 60), (0, 1))
        self.assertEqual(self.shifts("**.", "*.**.*", 60), (0, 2))
        self.assertIsNone(self.shifts("*.", "*..", 60))

    def test_the_first_of_several(self):
        self.assertEqual(self.shifts("..*", "..*.", 1), (0, 0))
        self.assertEqual(self.shifts("*..", "..*.", 1), (0, 2))
        self.assertEqual(self.shifts("*..", "....", 2), (1, 0))
        self.assertEqual(self.shifts("...*", "**..", 2), (0, 2))
        self.assertEqual(self.shifts("*.*.", ".*.*", 60), (0, 1))

    def test_no_shifts_agree(self):
        self.assertIsNone(self.shifts("*", ".", 1))
        self.assertIsNone(self.shifts("*.", "*..", 4))
        self.assertIsNone(self.shifts("*" * 12, "." * 12, 60))

    def test_many_lights(self):
        for p, q in itertools.product(patterns(3), patterns(4)):
            for count in (0, 1, 2, 3, 4, 5, 6, 60):
                self.assertEqual(self.shifts(p, q, count), slow_shifts(p, q, count))


class TellingLengthTest(unittest.TestCase):
    def length(self, p, q):
        return telling_length(Light(0, p), Light(0, q))

    def test_example_of_the_document(self):
        self.assertEqual(self.length("*.", "*.."), 4)

    def test_alike_lights(self):
        self.assertIsNone(self.length("*..", "*.."))
        self.assertIsNone(self.length("*..", ".*."))
        self.assertIsNone(self.length("*..", "*..*.."))
        self.assertIsNone(self.length(".*..*..*..*.", "..*"))
        self.assertIsNone(self.length("*", "************"))
        self.assertIsNone(self.length("*.*.", ".*.*.*"))
        light = Light(0, "*.")
        self.assertIsNone(telling_length(light, light))

    def test_lights_that_differ_at_once(self):
        self.assertEqual(self.length("*", "."), 1)
        self.assertEqual(self.length("***", ".." * 6), 1)

    def test_lights_that_differ_as_late_as_possible(self):
        for p, q in LATE:
            self.assertEqual(self.length(p, q), greatest_length(p, q), (p, q))
            self.assertEqual(self.length(q, p), greatest_length(p, q), (p, q))

    def test_many_lights(self):
        for p, q in itertools.product(patterns(4), repeat=2):
            self.check(p, q)

    def test_long_lights(self):
        dice = random.Random(24)
        for _ in range(60):
            p, q = ["".join(dice.choice("***.") for _ in range(dice.randint(7, 12))) for _ in "pq"]
            self.check(p, q)

    def check(self, p, q):
        self.assertEqual(self.length(p, q), slow_length(p, q), (p, q))


class ReadingsTest(unittest.TestCase):
    def test_the_empty_word(self):
        lights = lights_of("*.", "*", "..*")
        self.assertEqual(readings(lights, ""), [(0, 0), (0, 1), (1, 0), (2, 0), (2, 1), (2, 2)])
        self.assertEqual(readings([], ""), [])

    def test_no_lights(self):
        self.assertEqual(readings([], "*."), [])
        self.assertEqual(readings((), "*" * 60), [])

    def test_several_shifts_of_one_light(self):
        self.assertEqual(readings(lights_of("*.*.", "**."), ".*.*"), [(0, 1), (0, 3)])
        self.assertEqual(readings(lights_of("."), "..."), [(0, 0)])

    def test_readings_of_several_lights_and_of_none(self):
        lights = lights_of("*.", "*..", "..*.")
        self.assertEqual(readings(lights, "*."), [(0, 0), (1, 0), (2, 2)])
        self.assertEqual(readings(lights, ".*."), [(0, 1), (1, 2), (2, 1)])
        self.assertEqual(readings(lights, "**"), [])

    def test_a_light_that_stands_twice(self):
        light = Light(0, "*..")
        self.assertEqual(readings([light, light], "*."), [(0, 0), (1, 0)])
        self.assertEqual(readings((light, Light(1, "*"), light), ".*"), [(0, 2), (2, 2)])

    def test_words_of_60_characters(self):
        lights = lights_of("*.", "*" * 11 + ".", ".*" * 6)
        self.assertEqual(readings(lights, "*." * 30), [(0, 0)] + [(2, k) for k in (1, 3, 5, 7, 9, 11)])
        self.assertEqual(readings(lights, ("*" * 11 + ".") * 5), [(1, 0)])
        self.assertEqual(readings(lights, "*" * 60), [])

    def test_many_words(self):
        dice = random.Random(25)
        for _ in range(200):
            rows = [dice.choice(list(patterns(4))) for _ in range(dice.randint(0, 8))]
            word = "".join(dice.choice("*.") for _ in range(dice.randint(0, 5)))
            expected = [(index, shift) for index, row in enumerate(rows)
                        for shift in range(len(row)) if shown(row, shift, len(word)) == word]
            lights = lights_of(*rows)
            self.assertEqual(readings(lights, word), expected)
            indexes = {index for index, _ in expected}
            certain = indexes.pop() if len(indexes) == 1 else None
            self.assertEqual(certain_light(lights, word), certain)


class CertainLightTest(unittest.TestCase):
    def test_readings_of_one_light(self):
        lights = lights_of("*.", "*..", "..*.")
        self.assertEqual(certain_light(lights, ".*.*"), 0)
        self.assertEqual(certain_light(lights, "*..*"), 1)
        self.assertEqual(certain_light(lights, "..."), 2)
        self.assertEqual(certain_light(lights_of("**.", "*.*."), "*.*."), 1)

    def test_several_shifts_of_one_light(self):
        self.assertEqual(certain_light(lights_of("*.*.", "**."), ".*.*"), 0)
        self.assertEqual(certain_light(lights_of("**.", "...."), ".."), 1)

    def test_readings_of_two_lights_and_of_none(self):
        lights = lights_of("*.", "*..", "**")
        self.assertIsNone(certain_light(lights, "*."))
        self.assertIsNone(certain_light(lights, "*.**"))
        self.assertIsNone(certain_light(lights_of("*.", "**", ".*"), "*.*"))

    def test_a_light_that_stands_twice(self):
        light = Light(0, "*..")
        self.assertIsNone(certain_light([light, light], "*.."))
        self.assertEqual(certain_light([light], "*.."), 0)

    def test_the_empty_word_and_no_lights(self):
        self.assertIsNone(certain_light([], ""))
        self.assertIsNone(certain_light([], "*"))
        self.assertEqual(certain_light(lights_of("*.."), ""), 0)
        self.assertIsNone(certain_light(lights_of("*..", "."), ""))

    def test_words_of_60_characters(self):
        lights = lights_of("*.", "*" * 11 + ".", ".*" * 6)
        self.assertEqual(certain_light(lights, ("*" * 11 + ".") * 5), 1)
        self.assertIsNone(certain_light(lights, "*." * 30))
        self.assertIsNone(certain_light(lights, "*" * 60))


if __name__ == "__main__":
    unittest.main()
