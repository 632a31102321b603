"""Point 82: calls at all limits at once return well under a second."""

import time
import unittest

from fogfleet.bounds import (binding, earliest_alike, earliest_fit, latest_alike, latest_fit,
                             most_between)
from fogfleet.chains import (earliest_chain, first_hour, knows_by, knows_from, knows_held,
                             latest_chain)
from fogfleet.chart import Chart
from fogfleet.charttext import format_chart, parse_chart
from fogfleet.claims import format_claim, parse_claim
from fogfleet.drivings import fits, fuel_along
from fogfleet.common import common_run, commonly_by
from fogfleet.deeds import format_deeds, parse_deeds
from fogfleet.desk import Desk, replay
from fogfleet.disbelief import reason, strength
from fogfleet.errors import (BadClaim, BadText, Contradiction, DoesNotFit, FleetError, InvalidReceipt, InvalidReport,
                             NoSuchNumber, NoWorld, UnknownEntry)
from fogfleet.gates import Gate, tide_gate
from fogfleet.giveway import GiveWay, who_gives_way
from fogfleet.knowing import count_ends, counter, ends, first_knowing, knows, sure
from fogfleet.harbour import berths, lying_spans, present
from fogfleet.leastletters import least_letters, parting_world
from fogfleet.legs import leg_driving, leg_hours, leg_speeds, voyage
from fogfleet.letters import Letter
from fogfleet.lights import Light, flashes, sight_zone
from fogfleet.meeting import meeting_hours, meeting_verdict, meetings
from fogfleet.numbering import count_drivings, driving_at, number_of
from fogfleet.orders import breaking_legs, broken
from fogfleet.questions import settling, verdict
from fogfleet.reach import first_driving, next_places, reach_hours
from fogfleet.reports import Report, corridor_of, unmet
from fogfleet.runs import alike_runs, earliest_run, held, is_run, latest_run, seen
from fogfleet.schedules import least_schedule
from fogfleet.setting import Setting
from fogfleet.shared import common_counter, commonly
from fogfleet.ships import Ship, moves, step_lanes
from fogfleet.sightings import flash_reports, flash_zone, lights_seen
from fogfleet.tables import need_table, possible_places, rich_table
from fogfleet.telling import agreeing_shifts, certain_light, readings, telling_length
from fogfleet.ways import arrivals, count_lanes, shortest_way, widest_way
from fogfleet.worlds import alike, answers, fits_view, is_true, is_world, view_of
from tests.helpers import HUGE, all_pairs, all_places, full_chart, line_chart

LIMIT = 0.5
TIDE = (20, 0, 19, 1, 18, 2, 17, 3, 16, 4, 15, 5)


class SpeedTest(unittest.TestCase):
    def quick(self, call):
        before = time.perf_counter()
        call()
        self.assertLess(time.perf_counter() - before, LIMIT)

    def charts(self):
        return [full_chart(depth=99, tide=TIDE), line_chart(depth=99, tide=TIDE)]

    def test_chart(self):
        self.quick(lambda: Chart([99] * 12, all_pairs(12), tide=TIDE, harbours=range(12)))
        for chart in self.charts():
            self.quick(lambda: [chart.water(11, HUGE), chart.low_water(11),
                                chart.neighbours(11), chart.is_harbour(11)])

    def test_ways(self):
        for chart in self.charts():
            for draught in (0, 101, 119, 200):
                self.quick(lambda: count_lanes(chart, 0, 11, draught, HUGE))
                self.quick(lambda: shortest_way(chart, 0, 11, draught, HUGE))
                self.quick(lambda: arrivals(chart, 0, draught, 0, 96))
            self.quick(lambda: widest_way(chart, 0, 11))

    def test_texts(self):
        text = format_chart(Chart([99] * 12, all_pairs(12), tide=TIDE, harbours=range(12)))
        self.quick(lambda: format_chart(parse_chart(text)))
        for wrong in (text + "\nlane 0 " + "9" * 100000, text + "\nlane" + " 0" * 50000,
                      "depths " + "9" * 100000, "\n" * 100000):
            self.quick(lambda: self.assertRaises(BadText, parse_chart, wrong))

    def test_steps(self):
        for chart in self.charts():
            for slow in range(4):
                ship = Ship(99, slow=slow, fast=3)
                self.quick(lambda: moves(chart, ship, HUGE, 5))
                self.quick(lambda: step_lanes(chart, ship, HUGE, 5, 8))

    def cases(self):
        """Charts, ships and corridors at all limits at once."""
        charts = self.charts()
        for harbours in (range(12), (0, 5)):
            charts.append(full_chart(depth=99, tide=TIDE, harbours=harbours))
            charts.append(line_chart(depth=99, tide=TIDE, harbours=harbours))
        for chart in charts:
            for slow in range(4):
                yield chart, Ship(99, slow=slow, fast=3), all_places(chart, 25)

    def test_drivings(self):
        for chart, ship, corridor in self.cases():
            for driving in ([0] * 25, list(range(12)) + list(range(13)), [0, 1] * 12 + [0]):
                self.quick(lambda: fuel_along(chart, ship, driving[:25]))
                self.quick(lambda: fits(chart, ship, corridor, driving[:25]))

    def test_tables(self):
        for chart, ship, corridor in self.cases():
            self.quick(lambda: rich_table(chart, ship, corridor))
            self.quick(lambda: need_table(chart, ship, corridor))
            self.quick(lambda: possible_places(chart, ship, corridor))

    def test_reach(self):
        for chart, ship, corridor in self.cases():
            driving = first_driving(chart, ship, corridor)
            self.quick(lambda: first_driving(chart, ship, corridor))
            if driving is not None:
                self.quick(lambda: next_places(chart, ship, corridor, driving[:24]))
                self.quick(lambda: reach_hours(chart, ship, corridor, [11]))
                self.quick(lambda: reach_hours(chart, ship, corridor, list(range(12))))

    def test_numbering(self):
        for chart, ship, corridor in self.cases():
            self.quick(lambda: count_drivings(chart, ship, corridor))
            count = count_drivings(chart, ship, corridor)
            self.quick(lambda: self.assertRaises(NoSuchNumber, driving_at, chart, ship, corridor, HUGE))
            self.quick(lambda: self.assertRaises(DoesNotFit, number_of, chart, ship, corridor, []))
            if count:
                self.quick(lambda: driving_at(chart, ship, corridor, count - 1))
                driving = driving_at(chart, ship, corridor, count - 1)
                self.quick(lambda: number_of(chart, ship, corridor, driving))

    def test_lights(self):
        light = Light(11, "*" * 11 + ".", reach=3)
        other = Light(0, "*" * 10 + ".", reach=3)
        lights = [light, other] * 4
        for chart in self.charts():
            self.quick(lambda: sight_zone(chart, light))
        self.quick(lambda: flashes(light, HUGE, 60))
        for first, second in ((light, other), (light, light), (light, Light(0, "*"))):
            self.quick(lambda: agreeing_shifts(first, second, 60))
            self.quick(lambda: telling_length(first, second))
        for word in ("", "*" * 60, flashes(light, 0, 60)):
            self.quick(lambda: readings(lights, word))
            self.quick(lambda: certain_light(lights, word))

    def test_sightings(self):
        lights = [Light(place, "*" * 11 + ".", reach=3) for place in range(8)]
        for chart in self.charts():
            for word in ("", "." * 60, flashes(lights[0], HUGE, 60)):
                self.quick(lambda: lights_seen(lights, HUGE, word))
                self.quick(lambda: flash_zone(chart, lights, HUGE, word))
            self.quick(lambda: flash_reports(chart, lights, 3, 0, flashes(lights[0], 0, 25), 99))

    def reports(self):
        """Reports about ship 3 that leave it some places at each hour."""
        return [Report(3, k % 25, [k % 12, (k + 5) % 12, (k + 7) % 12], weight=99, inside=False)
                for k in range(40)]

    def test_reports(self):
        reports = self.reports()
        self.quick(lambda: Report(3, 24, list(range(12)), weight=99))
        for chart in self.charts():
            self.quick(lambda: corridor_of(chart, 24, reports, 3))
        self.quick(lambda: unmet(reports, 3, [11] * 25))

    def test_questions(self):
        for chart, ship, corridor in self.cases():
            if first_driving(chart, ship, corridor) is not None:
                for zone in ([0], [0, 2, 4, 6, 8, 10], list(range(12))):
                    self.quick(lambda: verdict(chart, ship, corridor, 12, zone))
                    self.quick(lambda: settling(chart, ship, corridor, 12, zone))

    def test_disbelief(self):
        for chart, ship, corridor in self.cases():
            for reports in (self.reports(), [Report(3, 24, list(range(12)))] * 40):
                for hour, zone in ((0, []), (12, [0, 2]), (24, list(range(11)))):
                    self.quick(lambda: strength(chart, ship, 24, reports, 3, hour, zone))
                    self.quick(lambda: reason(chart, ship, 24, reports, 3, hour, zone))
            reports = self.reports() + [Report(3, 12, [])]
            self.quick(lambda: reason(chart, ship, 24, reports[1:], 3, 12, [0]))

    def test_runs(self):
        hops = [(event, "s3", 0, 6) for event in range(6)]
        self.quick(lambda: Letter(24, list(range(12)), "k9", hops))
        post = [Letter(24, list(range(12)), "k9", hops)] * 6
        self.quick(lambda: [earliest_run(post), latest_run(post)])
        run = latest_run(post)
        self.quick(lambda: self.assertTrue(is_run(post, run)))
        self.quick(lambda: [seen(post, run, "s3", 96), held(post, run, "s3", 96)])
        self.quick(lambda: alike_runs(post, run, earliest_run(post), "s3", 96))

    def posts(self):
        """Posts of 6 letters of 6 hops between few agents, with hours of letters of all sorts."""
        for hours in ((24,) * 6, (0, 1, 2, 3, 4, 5), (0, 1, 2, 3, 23, 24), (4, 8, 12, 16, 20, 24)):
            post = []
            for number, hour in enumerate(hours):
                zone = [place for place in range(12) if (place * 7 + number * 5 + number ** 2) % 3 == 0]
                agents = ["s0", "k5", "s1", "k6", "s3", "k0"]
                hops = [(event, agents[(event + number) % 6], 0, 6) for event in range(6)]
                post.append(Letter(hour, zone, f"k{number}", hops))
            yield post

    def test_bounds(self):
        for post in self.posts():
            for run in (earliest_run(post), latest_run(post)):
                self.quick(lambda: [latest_alike(post, run, "s0", 96), earliest_alike(post, run, "s0", 30)])
                comings = seen(post, run, "k0", 96)
                self.quick(lambda: [latest_fit(post, "k0", 96, comings), earliest_fit(post, "k0", 96, comings)])
                self.quick(lambda: [binding(post, run, "s0", 96, 5, 6), most_between(post[5], 6, 0)])

    def test_chains(self):
        chain = [("s0", 40), ("k5", 30), ("s1", 96), ("k6", 25), ("s3", 50), ("k0", 96)]
        agents = [agent for agent, hour in chain]
        for post in self.posts():
            for run in (earliest_run(post), latest_run(post)):
                self.quick(lambda: [latest_chain(post, run, chain), earliest_chain(post, run, chain)])
                self.quick(lambda: [knows_by(post, run, chain, 5, 6, HUGE), knows_from(post, run, chain, 5, 6, HUGE),
                                    knows_held(post, run, chain, "k0", 96, 5)])
                self.quick(lambda: self.assertIsNone(first_hour(post, run, agents, 5, 6, -1, 96)))
                self.quick(lambda: [common_run(post, run, agents, 96), commonly_by(post, run, agents, 40, 5, 6, 1)])

    def settings(self):
        """Settings at all limits at once, each with a world; the posts take turns."""
        posts = list(self.posts())
        for number, (chart, ship, corridor) in enumerate(self.cases()):
            driving = first_driving(chart, ship, corridor)
            if driving is None:
                continue
            # No place of this driving is reported to be empty.
            reports = [Report(k % 4, k % 25, [(driving[k % 25] + k % 11 + 1) % 12], weight=99, inside=False)
                       for k in range(40)]
            post = posts[(number + number // 4) % 4]
            setting = Setting(chart, 24, [ship] * 4, reports=reports, letters=post)
            yield setting, ([list(driving) for _ in range(4)], latest_run(post))

    def test_worlds(self):
        for setting, world in self.settings():
            self.quick(lambda: self.assertTrue(is_world(setting, world)))
            self.quick(lambda: [answers(setting, world[0]), is_true(setting, world, ("apart", 0, 3))])
            view = view_of(setting, world, "s0", 96)
            self.quick(lambda: self.assertTrue(fits_view(setting, world, view)))
            self.quick(lambda: self.assertTrue(alike(setting, world, world, "s0", 96)))

    def test_knowing(self):
        chain = [("s0", 20), ("k5", 30), ("s0", 10), ("s1", 40), ("s0", 15), ("k6", 60)]
        facts = [("in", 0, 12, (1, 2, 3)), ("together", 0, 1, 12), ("apart", 0, 1), ("from", 5, 6, 96)]
        for number, (setting, world) in enumerate(self.settings()):
            fact = facts[number % 4]
            for agent, hour in (("s0", 22), ("k5", 60)):
                view = view_of(setting, world, agent, hour)
                self.quick(lambda: sure(setting, view, chain, fact))
                self.quick(lambda: counter(setting, view, chain, fact))
                self.quick(lambda: ends(setting, view, chain, 0))
                self.quick(lambda: count_ends(setting, view, chain[:-1], 0))
            self.quick(lambda: knows(setting, world, chain, fact))

    def test_first_knowing(self):
        agents = ["s0", "k5", "s0", "s1", "s0", "k6"]
        facts = [("in", 0, 12, ()), ("together", 0, 1, 24), ("apart", 0, 1), ("by", 5, 6, 0)]
        for number, (setting, world) in enumerate(self.settings()):
            fact = facts[number % 4]
            self.quick(lambda: first_knowing(setting, world, agents, fact, 96))

    def test_shared(self):
        many = ["s0", "k5", "s1", "k6", "s3", "k0"]
        facts = [("in", 0, 12, ()), ("together", 0, 1, 24), ("apart", 0, 1), ("from", 5, 6, 90), ("by", 5, 6, 0),
                 ("by", 5, 6, 96), ("holds", "k0", 96, 5)]
        for number, (setting, world) in enumerate(self.settings()):
            early = (world[0], earliest_run(setting.letters))
            for agents, hour in ((many, 24), (["s0"], 10), (["k5", "s0", "k6"] * 2, 40)):
                fact = facts[number % len(facts)]
                for start in (world, early):
                    self.quick(lambda: commonly(setting, start, agents, hour, fact))
                    self.quick(lambda: common_counter(setting, start, agents, hour, fact))

    def test_many_steps_in_common(self):
        # Each keeper lacks one letter, so that only neighbouring rows of answers are alike for it.
        snake = [0, 1, 3, 7, 6, 14, 12, 13, 29, 31, 27, 26]
        letters = []
        for letter in range(6):
            zone = [place for place in range(12) if snake[place] >> letter & 1]
            letters.append(Letter(20 + letter % 5, zone, "k9", [(0, f"k{k}", 0, 0) for k in range(6) if k != letter]))
        for ship in (Ship(0, fast=0), Ship(0, fast=3)):
            setting = Setting(full_chart(depth=99, tide=TIDE), 24, [ship] * 4, letters=letters)
            world = ([[0] * 25 for _ in range(4)], latest_run(letters))
            agents = [f"k{k}" for k in range(6)]
            for fact in (("out", 3, 12, (11,)), ("together", 0, 3, 24), ("apart", 2, 1)):
                for hour in (24, 96):
                    self.quick(lambda: self.assertIsNotNone(common_counter(setting, world, agents, hour, fact)))
                    self.quick(lambda: self.assertFalse(commonly(setting, world, agents, hour, fact)))

    def test_least_letters(self):
        for number, (setting, world) in enumerate(self.settings()):
            zone = [(), (1, 2, 3), tuple(range(12)), (world[0][0][12],)][number % 4]
            for agent in ("s0", "k5", "k9"):
                for fact in (("in", 0, 12, zone), ("out", 0, 24, zone)):
                    self.quick(lambda: least_letters(setting, world, agent, 24, fact))
                    self.quick(lambda: parting_world(setting, world, agent, 24, [5, 4, 3, 2, 1, 0], fact))

    def test_claims(self):
        chain = [("k9", 999), ("s3", 999)] * 3
        for fact in (("out", 3, 999, tuple(range(12))), ("together", 3, 2, 999), ("holds", "k9", 999, 5)):
            self.quick(lambda: self.assertEqual(parse_claim(format_claim(chain, fact)), (chain, fact)))
        for wrong in ("k9@" + "9" * 10 ** 6, "k1@3 knows " * 10 ** 5, " " * 10 ** 6, "x" * 10 ** 6,
                      "ship 1 in " + "1," * 10 ** 5 + " at 4", "ship 1 in 2 at 4" + " at" * 10 ** 5,
                      "ships " + "0," * 10 ** 5 + " apart", "@" * 10 ** 6):
            self.quick(lambda: self.assertRaises(BadClaim, parse_claim, wrong))

    def couples(self):
        """Charts and two ships with corridors at all limits at once."""
        for number, (chart, ship, corridor) in enumerate(self.cases()):
            if first_driving(chart, ship, corridor) is not None:
                other = [Ship(99, fast=3), Ship(99, fast=2, tank=5, fuel=1)][number % 2]
                pair = [ship, corridor, other, corridor] if number % 3 else [other, corridor, ship, corridor]
                yield [chart] + pair

    def test_meetings(self):
        for couple in self.couples():
            self.quick(lambda: meetings(*couple))
            self.quick(lambda: meeting_verdict(*couple))
            self.quick(lambda: meeting_hours(*couple))

    def test_giving_way(self):
        for couple in self.couples():
            self.quick(lambda: GiveWay(*couple))
            self.quick(lambda: who_gives_way(*couple))
            play = GiveWay(*couple)
            apart = meeting_verdict(*couple)[2]
            if apart is None:
                continue
            lead = 1 if play.keeps_clear else 0
            for many in (0, 12, 23):
                self.quick(lambda: play(apart[0][:many + lead], apart[1][:many]))

    def test_legs(self):
        for length in range(41):
            for slow, fast in ((1, 1), (1, 3), (2, 3)):
                self.quick(lambda: leg_hours(length, slow, fast))
                self.quick(lambda: [leg_speeds(length, slow, fast, hours) for hours in range(101)])
        self.quick(lambda: leg_driving([k % 12 for k in range(41)], [3] * 50))
        for chart in self.charts():
            self.quick(lambda: voyage(chart, Ship(99, slow=1, fast=3), [0, 11] * 6))

    def test_gates(self):
        full, odd = Gate(list(range(201))), Gate(list(range(1, 201, 2)))
        self.quick(lambda: Gate(list(range(200, -1, -1))))
        for gate in (full, odd):
            self.quick(lambda: [HUGE in gate, gate.first_from(HUGE), gate.first_from(200), list(gate)])
            self.quick(lambda: [gate.both(odd), gate.either(odd), gate.shrunk(0, 60), gate.shrunk(60, 60)])
        for chart in self.charts():
            self.quick(lambda: tide_gate(chart, 11, 105, 96))

    def rows_of_orders(self):
        """Sailings with 30 orders, many of which ask for one hour more and more."""
        full = Gate(list(range(201)))
        ring = [("after", k, (k + 1) % 12, 1 if k == 0 else 0) for k in range(12)]
        back = [("after", (k + 1) % 12, k, 1 if k == 0 else 0) for k in range(12)]
        yield [(0, 0)] * 12, (back + ring)[:24] + [("bar", k, full) for k in range(6)]
        yield [(0, 0)] * 12, ring[::-1] + [("gate", 11, full)] * 18
        yield [(0, 60)] * 12, [("bar", k % 12, full) for k in range(30)]
        yield [(0, 60)] * 12, [("bar", 0, Gate(list(range(k, 201)))) for k in range(30)]
        yield [(0, 0)] * 12, [("lands", k, (k + 11) % 12, -1 if k == 3 else 0) for k in range(12)]
        yield [(0, 0)] * 12, [("with", k % 12, (k + 1) % 12, 0 if k % 12 else -1) for k in range(30)]
        yield [(0, 0)] * 12, [("gate", k % 12, Gate(list(range(k % 2, 201, 2)))) for k in range(30)]

    def test_schedules(self):
        for sailings, orders in self.rows_of_orders():
            schedule = [96] * 12
            self.quick(lambda: least_schedule(sailings, orders, 96))
            self.quick(lambda: breaking_legs(sailings, orders, schedule))
            self.quick(lambda: broken(orders, schedule, [60] * 12))

    def test_harbour(self):
        for spans in ([(0, 200)] * 30, [(k, 200 - k) for k in range(30)], [(k * 6, k * 6 + 6) for k in range(30)]):
            self.quick(lambda: berths(spans))
        stays = [(k % 12, (k + 1) % 12) for k in range(30)]
        self.quick(lambda: lying_spans([(0, 60)] * 12, [96] * 12, stays))
        self.quick(lambda: present([96] * 12, [0] * 12, stays, 96))

    def test_deeds(self):
        deeds = [("report", 3, 999, tuple(range(12)), False, 99), ("receive", 5, 6, 999, (True,) * 4)] * 50
        self.quick(lambda: self.assertEqual(parse_deeds(format_deeds(deeds)), deeds))
        for wrong in ("withdraw " + "9" * 10 ** 6, " " * 10 ** 6, "\n" * 10 ** 5, "x" * 10 ** 6,
                      "receive 0 event 0 at 0 " + "y" * 10 ** 6, "report 0 at 0 in " + "1," * 10 ** 5 + " weight 1"):
            self.quick(lambda: self.assertRaises(BadText, parse_deeds, wrong))

    def full_desks(self):
        """Desks with 100 deeds and 40 standing reports, each with the world in which they are true."""
        for setting, world in list(self.settings())[::2]:
            desk = Desk(setting.chart, 24, setting.ships, letters=setting.letters)
            said = answers(setting, world[0])
            for number, event, hour in seen(setting.letters, world[1], "k0", 96):
                desk.receive(number, event, hour, said[number])
            for report in setting.reports:
                desk.report(report.ship, report.hour, report.zone, weight=99, inside=False)
            for k in range((100 - len(desk.deeds())) // 2):
                desk.withdraw([entry[0] for entry in desk if entry[1] == "report"][0])
                desk.report(k % 4, k % 25, [world[0][k % 4][k % 25], (world[0][k % 4][k % 25] + 5) % 12])
            self.assertGreaterEqual(len(desk.deeds()), 99)
            yield desk, setting, world

    def test_deeds_at_a_desk(self):
        for desk, setting, world in self.full_desks():
            flags = answers(setting, world[0])[0]
            self.quick(lambda: desk.report(3, 24, list(range(12)), weight=99))
            self.quick(lambda: desk.withdraw(desk.standing()[0][0]))
            self.quick(lambda: self.assertRaises(InvalidReport, desk.report, 3, 25, [0]))
            self.quick(lambda: self.assertRaises(InvalidReceipt, desk.receive, 5, 6, HUGE, flags))
            self.quick(lambda: self.assertRaises(UnknownEntry, desk.withdraw, HUGE))
            self.quick(lambda: self.assertRaises(Contradiction, desk.report, 0, 0, [], firm=True))
            self.quick(lambda: desk.report(0, 0, [world[0][0][0]], firm=True))
            many = len(desk.deeds())
            self.quick(lambda: [desk.undo() for _ in range(many)])
            self.quick(lambda: [desk.redo() for _ in range(many)])
            self.quick(lambda: [desk.standing(), desk.outlook(), desk.deeds(), list(desk)])
            text = desk.journal()
            self.quick(lambda: desk.journal())
            self.quick(lambda: replay(setting.chart, 24, setting.ships, setting.letters, text))
            self.quick(lambda: self.assertRaises(
                FleetError, replay, setting.chart, 24, setting.ships, setting.letters, text + "\n"))

    def test_questions_at_a_desk(self):
        chain = "s0@20 knows k5@30 knows s0@10 knows s1@40 knows s0@15 knows k6@60 knows "
        for number, (desk, setting, world) in enumerate(self.full_desks()):
            claim = ["ship 0 in 1,2,3 at 12", "ships 0,1 together at 12", "ships 0,1 apart",
                     "letter 5 event 6 from 96"][number % 4]
            for at in (0, 96):
                self.quick(lambda: [desk.as_setting(), desk.view_at(at)])
                for call in (lambda: desk.corridor(3, at=at), lambda: desk.places(3, at=at),
                             lambda: desk.judge(3, 12, [1, 2], at=at), lambda: desk.encounter(0, 3, at=at),
                             lambda: desk.settle(3, 12, [1, 2], at=at), lambda: desk.ask(chain + claim, at=at)):
                    self.quick(call)
            self.quick(lambda: desk.cost(3, 12, [1, 2]))
            self.quick(lambda: desk.grounds(3, 12, list(range(11))))
            desk.report(3, 12, [])
            self.quick(lambda: desk.trouble(3))
            self.quick(lambda: self.assertRaises(NoWorld, desk.encounter, 0, 1, at=0))


if __name__ == "__main__":
    unittest.main()
