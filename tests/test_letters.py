"""Points 34 and 35: agents, and letters with their hops."""

import unittest

from fogfleet.errors import FleetError, InvalidLetter
from fogfleet.letters import Letter
from tests.helpers import HUGE

KEEPERS = [f"k{number}" for number in range(10)]
SHIPS = [f"s{number}" for number in range(4)]
NO_AGENTS = ["", "k", "s", "K1", "S1", "k01", "k10", "k-1", "s4", "s9", "s00", "s 1", " k1", "k1 ",
             "ka", "1k", "11", "kk", "k1k1", "t0", "0", "k1\n"]
HOP = (0, "s0", 1, 2)


class LetterTest(unittest.TestCase):
    def told(self, letter):
        return (letter.hour, letter.zone, letter.writer, letter.hops)

    def refuse(self, part, *parts):
        with self.assertRaises(InvalidLetter) as caught:
            Letter(*parts)
        self.assertEqual(caught.exception.part, part)
        self.assertIsInstance(caught.exception, FleetError)

    def test_attributes(self):
        letter = Letter(2, [4, 0], "k1", [(0, "s0", 1, 3), (1, "k0", 0, 2)])
        self.assertEqual(self.told(letter),
                         (2, (0, 4), "k1", ((0, "s0", 1, 3), (1, "k0", 0, 2))))
        self.assertIs(type(letter.zone), tuple)
        self.assertIs(type(letter.hops), tuple)
        self.assertEqual({type(hop) for hop in letter.hops}, {tuple})

    def test_zones_and_hops_as_lists_and_tuples(self):
        for zone in ([5, 0, 11], (5, 0, 11), [11, 5, 0]):
            for hops in ([HOP, HOP], (HOP, HOP)):
                self.assertEqual(self.told(Letter(0, zone, "k0", hops)), (0, (0, 5, 11), "k0", (HOP, HOP)))
        self.assertEqual(self.told(Letter(0, [], "k0", [])), (0, (), "k0", ()))
        self.assertEqual(self.told(Letter(0, (), "k0", ())), (0, (), "k0", ()))
        self.assertEqual(Letter(0, list(range(12))[::-1], "k0", []).zone, tuple(range(12)))

    def test_hours(self):
        for hour in (0, 1, 23, 24):
            self.assertEqual(Letter(hour, [], "k0", []).hour, hour)
        for hour in (-1, 25, HUGE, -HUGE):
            self.refuse("hour", hour, [], "k0", [])

    def test_wrong_zones(self):
        for zone in ([-1], [12], [0, 12], [3, -1, 4], [HUGE], (0, 0), [3, 1, 3], [-1, -1],
                     list(range(13)), list(range(12)) + [0]):
            self.refuse("zone", 0, zone, "k0", [])

    def test_writers(self):
        for writer in KEEPERS:
            self.assertEqual(Letter(0, [], writer, []).writer, writer)
        for writer in SHIPS + NO_AGENTS:
            self.refuse("writer", 0, [], writer, [])

    def test_agents_of_hops(self):
        for agent in KEEPERS + SHIPS:
            self.assertEqual(Letter(0, [], "k0", [(0, agent, 0, 0)]).hops[0][1], agent)
        for agent in NO_AGENTS:
            self.refuse("hops", 0, [], "k0", [(0, agent, 0, 0)])
            self.refuse("hops", 0, [], "k0", [HOP, (0, agent, 0, 0)])

    def test_the_number_of_hops(self):
        self.assertEqual(Letter(0, [], "k0", [HOP] * 6).hops, (HOP,) * 6)
        self.refuse("hops", 0, [], "k0", [HOP] * 7)

    def test_parents(self):
        for parent in range(6):
            hops = [HOP] * 5 + [(parent, "k1", 0, 0)]
            self.assertEqual(Letter(0, [], "k0", hops).hops, tuple(hops))
        for parent in (6, 7, -1, -6, HUGE, -HUGE):
            self.refuse("hops", 0, [], "k0", [HOP] * 5 + [(parent, "k1", 0, 0)])
        for parent in (1, 2, -1):
            self.refuse("hops", 0, [], "k0", [(parent, "k1", 0, 0)])
        self.refuse("hops", 0, [], "k0", [(0, "k1", 0, 0), (2, "k1", 0, 0), (0, "k1", 0, 0)])

    def test_low_and_high(self):
        for low in range(7):
            for high in range(low, 7):
                self.assertEqual(Letter(0, [], "k0", [(0, "k1", low, high)]).hops[0][2:], (low, high))
        for low, high in ((-1, 0), (-1, 6), (1, 0), (6, 5), (0, 7), (6, 7), (7, 7), (0, -1), (-2, -1),
                          (0, HUGE), (-HUGE, 0)):
            self.refuse("hops", 0, [], "k0", [(0, "k1", low, high)])
            self.refuse("hops", 0, [], "k0", [HOP, HOP, (0, "k1", low, high), HOP])

    def test_the_first_wrong_part_is_named(self):
        order = ["hour", "zone", "writer", "hops"]
        wrong = {"hour": 25, "zone": [1, 1], "writer": "s0", "hops": [(1, "k0", 0, 0)]}
        right = {"hour": 24, "zone": [1, 0], "writer": "k9", "hops": [(0, "s3", 6, 6)]}
        for mask in range(1, 16):
            bad = [part for k, part in enumerate(order) if mask >> k & 1]
            self.refuse(bad[0], *[(wrong if part in bad else right)[part] for part in order])

    def test_agent_of(self):
        letter = Letter(2, [], "k9", [(0, "s0", 1, 3), (0, "k0", 0, 2), (2, "s3", 1, 1), (1, "s0", 0, 0),
                                      (3, "k9", 0, 6), (0, "k0", 1, 1)])
        agents = ["k9", "s0", "k0", "s3", "s0", "k9", "k0"]
        self.assertEqual([letter.agent_of(event) for event in range(7)], agents)
        self.assertEqual(Letter(0, [], "k3", []).agent_of(0), "k3")

    def test_later_changes_of_what_was_passed(self):
        zone, hops = [3, 1], [HOP]
        letter = Letter(0, zone, "k0", hops)
        zone[0] = 9
        zone.append(2)
        hops[0] = (0, "k5", 0, 0)
        hops.append(HOP)
        self.assertEqual(self.told(letter), (0, (1, 3), "k0", (HOP,)))
        self.assertEqual(letter.agent_of(1), "s0")


if __name__ == "__main__":
    unittest.main()
