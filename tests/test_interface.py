"""The interface: its names, arguments, methods and files."""

import importlib
import inspect
import unittest

INTERFACE = {
    "chart": {
        "Chart": "(depths, lanes, *, tide=(0,), harbours=())",
    },
    "ways": {
        "count_lanes": "(chart, start, goal, draught=0, hour=0)",
        "shortest_way": "(chart, start, goal, draught=0, hour=0)",
        "widest_way": "(chart, start, goal)",
        "arrivals": "(chart, start, draught=0, hour=0, last=24)",
    },
    "charttext": {
        "format_chart": "(chart)",
        "parse_chart": "(text)",
    },
    "ships": {
        "Ship": "(draught, *, slow=0, fast=1, tank=8, fuel=None)",
        "step_lanes": "(chart, ship, hour, start, goal)",
        "moves": "(chart, ship, hour, start)",
    },
    "drivings": {
        "fuel_along": "(chart, ship, driving)",
        "fits": "(chart, ship, corridor, driving)",
    },
    "tables": {
        "rich_table": "(chart, ship, corridor)",
        "need_table": "(chart, ship, corridor)",
        "possible_places": "(chart, ship, corridor)",
    },
    "reach": {
        "next_places": "(chart, ship, corridor, places)",
        "first_driving": "(chart, ship, corridor)",
        "reach_hours": "(chart, ship, corridor, zone)",
    },
    "numbering": {
        "count_drivings": "(chart, ship, corridor)",
        "driving_at": "(chart, ship, corridor, number)",
        "number_of": "(chart, ship, corridor, driving)",
    },
    "lights": {
        "Light": "(place, pattern, *, reach=1)",
        "flashes": "(light, hour, count)",
        "sight_zone": "(chart, light)",
    },
    "telling": {
        "agreeing_shifts": "(a, b, count)",
        "telling_length": "(a, b)",
        "readings": "(lights, word)",
        "certain_light": "(lights, word)",
    },
    "reports": {
        "Report": "(ship, hour, zone, *, weight=1, inside=True)",
        "corridor_of": "(chart, horizon, reports, ship)",
        "unmet": "(reports, ship, driving)",
    },
    "sightings": {
        "lights_seen": "(lights, hour, word)",
        "flash_zone": "(chart, lights, hour, word)",
        "flash_reports": "(chart, lights, ship, hour, word, weight=1)",
    },
    "questions": {
        "verdict": "(chart, ship, corridor, hour, zone)",
        "settling": "(chart, ship, corridor, hour, zone, after=0)",
    },
    "disbelief": {
        "strength": "(chart, ship, horizon, reports, number, hour, zone)",
        "reason": "(chart, ship, horizon, reports, number, hour, zone)",
    },
    "letters": {
        "Letter": "(hour, zone, writer, hops)",
    },
    "runs": {
        "is_run": "(post, run)",
        "earliest_run": "(post)",
        "latest_run": "(post)",
        "seen": "(post, run, agent, hour)",
        "held": "(post, run, agent, hour)",
        "alike_runs": "(post, first, second, agent, hour)",
    },
    "bounds": {
        "most_between": "(letter, first, second)",
        "latest_alike": "(post, run, agent, hour)",
        "earliest_alike": "(post, run, agent, hour)",
        "latest_fit": "(post, agent, hour, comings)",
        "earliest_fit": "(post, agent, hour, comings)",
        "binding": "(post, run, agent, hour, letter, event)",
    },
    "chains": {
        "latest_chain": "(post, run, chain)",
        "earliest_chain": "(post, run, chain)",
        "knows_by": "(post, run, chain, letter, event, by)",
        "knows_from": "(post, run, chain, letter, event, since)",
        "knows_held": "(post, run, chain, agent, hour, letter)",
        "first_hour": "(post, run, agents, letter, event, by, limit=60)",
    },
    "common": {
        "common_run": "(post, run, agents, hour)",
        "commonly_by": "(post, run, agents, hour, letter, event, by)",
    },
    "setting": {
        "Setting": "(chart, horizon, ships, *, reports=(), letters=())",
    },
    "worlds": {
        "is_world": "(setting, world)",
        "answers": "(setting, drivings)",
        "view_of": "(setting, world, agent, hour)",
        "alike": "(setting, first, second, agent, hour)",
        "fits_view": "(setting, world, view)",
        "is_true": "(setting, world, fact)",
    },
    "knowing": {
        "sure": "(setting, view, chain, fact)",
        "counter": "(setting, view, chain, fact)",
        "knows": "(setting, world, chain, fact)",
        "ends": "(setting, view, chain, number)",
        "count_ends": "(setting, view, chain, number)",
        "first_knowing": "(setting, world, agents, fact, limit=60)",
    },
    "shared": {
        "commonly": "(setting, world, agents, hour, fact)",
        "common_counter": "(setting, world, agents, hour, fact)",
    },
    "leastletters": {
        "least_letters": "(setting, world, agent, hour, fact)",
        "parting_world": "(setting, world, agent, hour, letters, fact)",
    },
    "claims": {
        "format_claim": "(chain, fact)",
        "parse_claim": "(line)",
    },
    "meeting": {
        "meetings": "(chart, first, first_corridor, second, second_corridor)",
        "meeting_verdict": "(chart, first, first_corridor, second, second_corridor)",
        "meeting_hours": "(chart, first, first_corridor, second, second_corridor)",
    },
    "giveway": {
        "GiveWay": "(chart, first, first_corridor, second, second_corridor)",
        "who_gives_way": "(chart, first, first_corridor, second, second_corridor)",
    },
    "legs": {
        "leg_hours": "(length, slow, fast)",
        "leg_speeds": "(length, slow, fast, hours)",
        "leg_driving": "(way, speeds)",
        "voyage": "(chart, ship, stops)",
    },
    "gates": {
        "Gate": "(hours)",
        "tide_gate": "(chart, place, draught, last)",
    },
    "orders": {
        "order_holds": "(order, schedule, legs)",
        "broken": "(orders, schedule, legs)",
        "breaking_legs": "(sailings, orders, schedule)",
    },
    "schedules": {
        "least_schedule": "(sailings, orders, last=48)",
    },
    "harbour": {
        "lying_spans": "(sailings, schedule, stays)",
        "present": "(schedule, legs, stays, hour)",
        "berths": "(spans)",
    },
    "deeds": {
        "format_deeds": "(deeds)",
        "parse_deeds": "(text)",
    },
    "desk": {
        "Desk": "(chart, horizon, ships, *, letters=())",
        "replay": "(chart, horizon, ships, letters, text)",
    },
}
METHODS = {
    ("chart", "Chart"): {
        "water": "(self, place, hour)",
        "low_water": "(self, place)",
        "neighbours": "(self, place)",
        "is_harbour": "(self, place)",
    },
    ("reports", "Report"): {
        "allows": "(self, place)",
    },
    ("letters", "Letter"): {
        "agent_of": "(self, event)",
    },
    ("setting", "Setting"): {
        "corridor": "(self, number)",
    },
    ("giveway", "GiveWay"): {
        "__call__": "(self, first_places, second_places)",
    },
    ("gates", "Gate"): {
        "first_from": "(self, hour)",
        "both": "(self, other)",
        "either": "(self, other)",
        "shrunk": "(self, low, high)",
        "__iter__": "(self)",
    },
    ("desk", "Desk"): {
        "report": "(self, ship, hour, zone, *, weight=1, inside=True, firm=False)",
        "receive": "(self, letter, event, hour, flags)",
        "withdraw": "(self, number)",
        "undo": "(self)",
        "redo": "(self)",
        "standing": "(self)",
        "outlook": "(self)",
        "as_setting": "(self)",
        "view_at": "(self, hour)",
        "corridor": "(self, ship, *, at)",
        "places": "(self, ship, *, at)",
        "judge": "(self, ship, hour, zone, *, at)",
        "encounter": "(self, first, second, *, at)",
        "settle": "(self, ship, hour, zone, *, at, after=0)",
        "ask": "(self, line, *, at)",
        "cost": "(self, ship, hour, zone)",
        "grounds": "(self, ship, hour, zone)",
        "trouble": "(self, ship)",
        "deeds": "(self)",
        "journal": "(self)",
        "__iter__": "(self)",
    },
}


class InterfaceTest(unittest.TestCase):
    def test_each_name_stands_in_its_file_with_its_arguments(self):
        for file, names in INTERFACE.items():
            module = importlib.import_module(f"fogfleet.{file}")
            for name, arguments in names.items():
                thing = getattr(module, name)
                self.assertEqual(thing.__module__, module.__name__, name)
                self.assertEqual(str(inspect.signature(thing)), arguments, name)

    def test_each_method_stands_in_its_class(self):
        for (file, name), methods in METHODS.items():
            owner = getattr(importlib.import_module(f"fogfleet.{file}"), name)
            for method, arguments in methods.items():
                self.assertIn(method, vars(owner))
                self.assertEqual(str(inspect.signature(vars(owner)[method])), arguments, method)


if __name__ == "__main__":
    unittest.main()
