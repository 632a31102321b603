"""Points 57 to 59: the game in which one ship gives way to the other one."""

import copy
import random
import unittest

from fogfleet.chart import Chart
from fogfleet.errors import FleetError, NoDriving, NotInPlay
from fogfleet.giveway import GiveWay, who_gives_way
from fogfleet.reach import next_places
from fogfleet.ships import Ship
from tests.couples import impossible_couples, meet, possible_couples
from tests.helpers import all_places, beginnings_of, full_chart, line_chart

CASES = 500
LINE = line_chart(4)
STILL = Ship(0, fast=0)
# Ship 1 has two places to go, but ship 0 sees both of them and chooses first.
DODGE = [LINE, Ship(0), [[0], [0, 1, 2, 3], [0, 1, 2, 3]], Ship(0), [[3], [2, 3], [1, 2, 3]]]
CHASE = [LINE, Ship(0), [[0, 1, 2], [1, 2]], STILL, [[1, 2], [1, 2]]]


def goings_on_of(drivings):
    """A dict from each beginning to the ascending list of its next places."""
    table = {}
    for many in range(len(drivings[0])):
        for driving in drivings:
            places = table.setdefault(driving[:many], [])
            if driving[many] not in places:
                places.append(driving[many])
    return table


def keeps_clear_slowly(firsts, seconds):
    """Whether the second ship can keep clear, found by going through the whole game."""
    hours = len(firsts[0])
    first_goes, second_goes = goings_on_of(firsts), goings_on_of(seconds)

    def clear(places, others):
        if len(places) == hours:
            return True
        return all(any(other != place and clear(places + (place,), others + (other,))
                       for other in second_goes[others])
                   for place in first_goes[places])

    return clear((), ())


class GameTest(unittest.TestCase):
    def check_plays(self, couple, firsts, seconds, play):
        """Go through all plays in which the object chooses for its ship and the other one tries all."""
        hours = len(firsts[0])
        chart, first, first_corridor, second, second_corridor = couple
        first_goes, second_goes = goings_on_of(firsts), goings_on_of(seconds)
        ends = []
        games = [((), ())]
        while games:
            places, others = games.pop()
            if len(places) == hours:
                ends.append(meet(places, others))
            elif play.keeps_clear:
                for place in first_goes[places]:
                    answer = play(list(places) + [place], list(others))
                    self.assertIn(answer, next_places(chart, second, second_corridor, list(others)))
                    games.append((places + (place,), others + (answer,)))
            else:
                place = play(list(places), list(others))
                self.assertIn(place, next_places(chart, first, first_corridor, list(places)))
                for other in second_goes[others]:
                    if other == place:
                        ends.append(True)
                    else:
                        games.append((places + (place,), others + (other,)))
        self.assertEqual(set(ends), {not play.keeps_clear})


class KeepsClearTest(GameTest):
    def test_both_values(self):
        self.assertIs(GiveWay(*DODGE).keeps_clear, True)
        self.assertIs(GiveWay(*CHASE).keeps_clear, False)

    def test_one_hour(self):
        for zones, others, expected in (([[0]], [[0]], False), ([[0]], [[1]], True), ([[0]], [[1, 0]], True),
                                        ([[0, 1]], [[1]], False), ([[0, 1]], [[0, 1]], True)):
            self.assertIs(GiveWay(LINE, STILL, zones, STILL, others).keeps_clear, expected)

    def test_the_second_ship_sees_each_choice(self):
        # If the first ship saw the second one's choices, it would meet it.
        pair = line_chart(2)
        couple = [pair, Ship(0), all_places(pair, 3), Ship(0), all_places(pair, 3)]
        self.assertIs(GiveWay(*couple).keeps_clear, True)
        three = line_chart(3)
        couple = [three, Ship(0), all_places(three, 3), Ship(0), [[0, 1, 2], [0, 1, 2], [1]]]
        self.assertIs(GiveWay(*couple).keeps_clear, False)

    def test_it_is_not_enough_that_some_drivings_keep_apart(self):
        couple = [LINE, Ship(0), [[1], [0, 2]], Ship(0), [[3], [2, 3]]]
        self.assertIs(GiveWay(*couple).keeps_clear, True)
        couple = [LINE, Ship(0), [[0, 2], [1, 2], [1, 2]], STILL, [[1], [1], [1]]]
        self.assertIs(GiveWay(*couple).keeps_clear, False)

    def test_ships_that_pass_one_another(self):
        pair = line_chart(2)
        self.assertIs(GiveWay(pair, Ship(0), [[0], [1]], Ship(0), [[1], [0]]).keeps_clear, True)

    def test_fuel(self):
        # The second ship has to leave place 2 for the first one, and then place 3.
        for fuel in range(4):
            second = Ship(0, tank=3, fuel=fuel)
            couple = [LINE, Ship(0), [[1], [2], [3]], second, [[2], [2, 3], [2, 3]]]
            self.assertIs(GiveWay(*couple).keeps_clear, fuel >= 2)
        # Without fuel the first ship cannot come near.
        for fuel in (0, 1):
            couple = [LINE, Ship(0, fuel=fuel), [[0], [0, 1]], STILL, [[1], [1]]]
            self.assertIs(GiveWay(*couple).keeps_clear, fuel == 0)

    def test_a_harbour_on_the_way(self):
        for harbours, expected in (((), True), ((1,), False)):
            chart = line_chart(4, harbours=harbours)
            hunter = Ship(0, tank=3, fuel=1)
            couple = [chart, hunter, [[0]] + all_places(chart, 3), STILL, [[3]] * 4]
            self.assertIs(GiveWay(*couple).keeps_clear, expected)

    def test_many_games(self):
        found = {True: 0, False: 0}
        for couple, firsts, seconds in possible_couples(range(CASES), hours=4, most=3000):
            play = GiveWay(*couple)
            self.assertIs(play.keeps_clear, keeps_clear_slowly(firsts, seconds))
            self.check_plays(couple, firsts, seconds, play)
            found[play.keeps_clear] += 1
        self.assertGreater(min(found.values()), 30)

    def test_longer_games_with_tight_tanks(self):
        found = set()
        for couple, firsts, seconds in possible_couples(range(5000, 5400), places=3, hours=6, most=20000):
            play = GiveWay(*couple)
            self.assertIs(play.keeps_clear, keeps_clear_slowly(firsts, seconds))
            self.check_plays(couple, firsts, seconds, play)
            found.add(play.keeps_clear)
        self.assertEqual(found, {True, False})

    def test_no_driving(self):
        for function in (GiveWay, who_gives_way):
            for couple, number in impossible_couples():
                with self.assertRaises(NoDriving) as caught:
                    function(*couple)
                self.assertEqual(caught.exception.ship, number)


class CallTest(GameTest):
    def refuse(self, play, part, places, others):
        with self.assertRaises(NotInPlay) as caught:
            play(places, others)
        self.assertEqual(caught.exception.part, part)
        self.assertIsInstance(caught.exception, FleetError)

    def wrong_beginnings(self, zones):
        """Lists that are no beginnings: of no place, too long, and with a step that is not possible."""
        return [[4], [-1], [99], [12], [zones[0][0]] * 2 + [-4], [0, 3], [3, 0],
                [zone[0] for zone in zones] + [zones[-1][0]]]

    def test_no_beginnings(self):
        for couple, lead in ((DODGE, 1), (CHASE, 0)):
            play = GiveWay(*couple)
            for wrong in self.wrong_beginnings(couple[2]):
                self.refuse(play, "first", wrong, [])
                self.refuse(play, "first", wrong, [couple[4][0][0]] * 3)
                self.refuse(play, "first", tuple(wrong), wrong)
            for wrong in self.wrong_beginnings(couple[4]):
                for right in ([], [couple[2][0][0]]):
                    self.refuse(play, "second", right, wrong)
        # From place 0 no fitting driving goes on.
        play = GiveWay(LINE, Ship(0), [[0, 1], [2]], STILL, [[3, 0], [3, 0]])
        self.refuse(play, "first", [0], [])
        self.refuse(play, "first", [0], [0])
        self.assertIn(play([1], []), [0, 3])

    def test_lengths(self):
        dodge, chase = GiveWay(*DODGE), GiveWay(*CHASE)
        for places, others in (([], []), ([0], [3]), ([0, 0], []), ([], [3]), ([0], [3, 3]),
                               ([0, 1, 2], [3, 3, 3]), ([0, 1, 2], [3])):
            self.refuse(dodge, "lengths", places, others)
        for places, others in (([1], []), ([], [1]), ([1, 1], []), ([1, 1], [2]), ([1], [2, 2])):
            self.refuse(chase, "lengths", places, others)

    def test_no_places_left_to_choose(self):
        self.refuse(GiveWay(*CHASE), "lengths", [1, 1], [2, 2])
        self.refuse(GiveWay(*CHASE), "lengths", [1, 1], [1, 1])
        self.refuse(GiveWay(*DODGE), "lengths", [0, 1, 2], [3, 3, 2])
        short = GiveWay(LINE, STILL, [[0]], STILL, [[0]])
        self.assertEqual(short([], []), 0)
        self.refuse(short, "lengths", [0], [0])

    def test_meetings(self):
        everywhere = all_places(LINE, 4)
        play = GiveWay(LINE, Ship(0), everywhere, Ship(0), everywhere)
        self.assertTrue(play.keeps_clear)
        self.refuse(play, "met", [1, 2], [1])
        self.refuse(play, "met", [0, 1, 1, 1], [1, 1, 2])
        self.refuse(play, "met", [0, 0, 0, 0], [1, 1, 0])
        # At the hour at which only the first ship has a place there is no meeting.
        self.assertIn(play([0, 1, 2], [1, 2]), [1, 2, 3])
        stay = GiveWay(LINE, Ship(0), everywhere, STILL, [[0, 1, 2]] * 4)
        self.assertFalse(stay.keeps_clear)
        self.refuse(stay, "met", [1], [1])
        self.refuse(stay, "met", [1, 2], [2, 2])
        self.refuse(stay, "met", [1, 1, 2], [2, 2, 2])

    def test_two_wrong_at_once(self):
        dodge, chase = GiveWay(*DODGE), GiveWay(*CHASE)
        self.refuse(dodge, "first", [3], [0])
        self.refuse(dodge, "first", [0, 3], [3, 3, 3])
        self.refuse(dodge, "second", [0], [0])
        self.refuse(dodge, "second", [0, 1, 2], [0, 1, 2])
        self.refuse(dodge, "lengths", [0, 1, 2], [3, 2, 2])
        self.refuse(chase, "lengths", [1, 1], [1])
        self.refuse(chase, "second", [1], [0])

    def test_calls_that_no_play_reaches(self):
        # The ship that the object plays for went other ways than it was told.
        for couple, firsts, seconds in possible_couples(range(60), hours=3, most=300):
            play = GiveWay(*couple)
            lead = 1 if play.keeps_clear else 0
            chart, first, first_corridor, second, second_corridor = couple
            for places in beginnings_of(firsts):
                for others in beginnings_of(seconds):
                    if len(places) - len(others) != lead or len(others) == len(first_corridor):
                        self.refuse(play, "lengths", list(places), list(others))
                    elif meet(places, others):
                        self.refuse(play, "met", list(places), list(others))
                    elif play.keeps_clear:
                        self.assertIn(play(places, others), next_places(chart, second, second_corridor, list(others)))
                    else:
                        self.assertIn(play(places, others), next_places(chart, first, first_corridor, list(places)))

    def test_the_same_lists_give_the_same_answer(self):
        for couple, firsts, seconds in possible_couples(range(60, 100), hours=4, most=500):
            play = GiveWay(*couple)
            lead = 1 if play.keeps_clear else 0
            asked = [(places, others) for places in sorted(beginnings_of(firsts))
                     for others in sorted(beginnings_of(seconds))
                     if len(places) - len(others) == lead and len(others) < len(couple[2])
                     and not meet(places, others)]
            answers = {pair: play(*map(list, pair)) for pair in asked}
            random.Random(0).shuffle(asked)
            again = GiveWay(*couple)
            for places, others in asked:
                self.assertEqual(play(list(places), list(others)), answers[(places, others)])
                self.assertEqual(again(places, others), answers[(places, others)])

    def test_arguments_stay_as_they_were(self):
        for couple in (DODGE, CHASE):
            passed = [couple[0], couple[1], copy.deepcopy(couple[2]), couple[3], copy.deepcopy(couple[4])]
            play = GiveWay(*passed)
            self.assertEqual(passed[2], couple[2])
            self.assertEqual(passed[4], couple[4])
            places, others = ([0, 1], [3]) if play.keeps_clear else ([], [])
            before = play(places, others)
            self.assertEqual((places, others), ([0, 1], [3]) if play.keeps_clear else ([], []))
            for zone in passed[2] + passed[4]:
                zone.clear()
            passed[2].clear()
            passed[4].clear()
            self.assertEqual(play(places, others), before)
            self.assertRaises(NotInPlay, play, [7], [])
            self.assertEqual(play(places, others), before)
            self.assertIs(play.keeps_clear, GiveWay(*couple).keeps_clear)


class WhoGivesWayTest(unittest.TestCase):
    def exchanged(self, couple):
        return couple[:1] + couple[3:] + couple[1:3]

    def test_both_roles(self):
        self.assertEqual(who_gives_way(LINE, STILL, [[0]], STILL, [[0, 1]]), (True, False))
        self.assertEqual(who_gives_way(LINE, STILL, [[0, 1]], STILL, [[0]]), (False, True))
        self.assertEqual(who_gives_way(LINE, STILL, [[0]], STILL, [[0]]), (False, False))
        self.assertEqual(who_gives_way(LINE, STILL, [[0, 1]], STILL, [[0, 1]]), (True, True))
        self.assertIs(type(who_gives_way(*DODGE)), tuple)

    def test_many_couples(self):
        found = set()
        for couple, firsts, seconds in possible_couples(range(200), hours=4, most=2000):
            answer = who_gives_way(*couple)
            self.assertEqual(answer, (keeps_clear_slowly(firsts, seconds), keeps_clear_slowly(seconds, firsts)))
            self.assertEqual(who_gives_way(*self.exchanged(couple)), answer[::-1])
            found.add(answer)
        self.assertEqual(len(found), 4)


class GreatGameTest(unittest.TestCase):
    def test_a_long_game_on_the_whole_chart(self):
        ring = Chart([5] * 12, [(k, (k + 1) % 12) for k in range(12)], harbours=[0, 4, 8])
        zones = all_places(ring, 25)
        play = GiveWay(ring, Ship(0, fast=2, tank=4), zones, Ship(0, fast=1, tank=3, fuel=0), zones)
        dice = random.Random(1)
        for _ in range(5):
            places, others = [], []
            while len(others) < 25:
                if play.keeps_clear:
                    places.append(dice.choice(next_places(ring, Ship(0, fast=2, tank=4), zones, places)))
                    others.append(play(places, others))
                else:
                    place = play(places, others)
                    others.append(dice.choice(next_places(ring, Ship(0, fast=1, tank=3, fuel=0), zones, others)))
                    places.append(place)
                    if place == others[-1]:
                        break
            self.assertEqual(meet(places, others), not play.keeps_clear)

    def test_each_place_is_joined(self):
        chart = full_chart()
        zones = all_places(chart, 25)
        self.assertEqual(who_gives_way(chart, Ship(0), zones, Ship(0), zones), (True, True))
        self.assertEqual(who_gives_way(chart, Ship(0, fuel=1), zones, STILL, zones), (False, True))


if __name__ == "__main__":
    unittest.main()
