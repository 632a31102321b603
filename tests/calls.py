"""Calls of the functions of the interface, for the tests of what all of them promise."""

from fogfleet.chart import Chart
from fogfleet.disbelief import reason, strength
from fogfleet.drivings import fits, fuel_along
from fogfleet.errors import DoesNotFit, InvalidLetter, InvalidLight, InvalidReport, NoDriving, NoSuchNumber
from fogfleet.letters import Letter
from fogfleet.lights import Light, flashes, sight_zone
from fogfleet.numbering import count_drivings, driving_at, number_of
from fogfleet.questions import settling, verdict
from fogfleet.reach import first_driving, next_places, reach_hours
from fogfleet.reports import Report, corridor_of, unmet
from fogfleet.runs import alike_runs, earliest_run, held, is_run, latest_run, seen
from fogfleet.ships import Ship
from fogfleet.sightings import flash_reports, flash_zone, lights_seen
from fogfleet.tables import need_table, possible_places, rich_table
from fogfleet.telling import agreeing_shifts, certain_light, readings, telling_length

CHART = Chart([5, 3, 8, 5], [(1, 0), (1, 2), (2, 3)], tide=(0, 2), harbours=(2, 0))
SHIP = Ship(4, fast=2, tank=3, fuel=2)
CORRIDOR = [[3, 0], [0, 1, 3], (3, 1, 0, 2), [2, 1]]
DRIVING = [0, 0, 1, 1]
LIGHT = Light(1, "*..", reach=2)
OTHER = Light(2, "*.")
REPORTS = [Report(0, 1, [3, 0]), Report(1, 0, []), Report(0, 1, [3, 2, 1], weight=5), Report(0, 3, [1]),
           Report(0, 2, [1], inside=False)]
LETTER = Letter(2, [1, 0], "k1", [(0, "s0", 1, 3), (1, "k0", 0, 2)])
POST = [LETTER, Letter(0, [], "k0", [(0, "s0", 0, 6)]), LETTER]
RUN = [[2, 4, 5], [0, 4], [2, 4, 5]]

# Each call with what is passed to it, and the kind of its answer.
CALLS = [
    (fuel_along, [CHART, SHIP, DRIVING], list),
    (fits, [CHART, SHIP, CORRIDOR, DRIVING], bool),
    (rich_table, [CHART, SHIP, CORRIDOR], list),
    (need_table, [CHART, SHIP, CORRIDOR], list),
    (possible_places, [CHART, SHIP, CORRIDOR], list),
    (next_places, [CHART, SHIP, CORRIDOR, [0, 0]], list),
    (next_places, [CHART, SHIP, CORRIDOR, []], list),
    (first_driving, [CHART, SHIP, CORRIDOR], list),
    (reach_hours, [CHART, SHIP, CORRIDOR, [1, 0]], tuple),
    (count_drivings, [CHART, SHIP, CORRIDOR], int),
    (driving_at, [CHART, SHIP, CORRIDOR, 1], list),
    (number_of, [CHART, SHIP, CORRIDOR, DRIVING], int),
    (flashes, [LIGHT, 5, 7], str),
    (sight_zone, [CHART, LIGHT], list),
    (agreeing_shifts, [LIGHT, OTHER, 3], tuple),
    (telling_length, [LIGHT, OTHER], int),
    (readings, [[LIGHT, OTHER, LIGHT], "*."], list),
    (certain_light, [[LIGHT, OTHER], "*.*"], int),
    (lights_seen, [[LIGHT, OTHER, LIGHT], 0, "*."], list),
    (flash_zone, [CHART, [LIGHT, OTHER, LIGHT], 0, "*."], list),
    (flash_reports, [CHART, [LIGHT, OTHER], 0, 0, "*.", 7], list),
    (Report, [1, 2, [3, 1]], Report),
    (corridor_of, [CHART, 4, REPORTS, 0], list),
    (unmet, [REPORTS, 0, DRIVING], list),
    (verdict, [CHART, SHIP, CORRIDOR, 2, [2, 1]], tuple),
    (verdict, [CHART, SHIP, CORRIDOR, 2, [3, 2, 1, 0]], tuple),
    (settling, [CHART, SHIP, CORRIDOR, 3, [2, 0], 1], tuple),
    (strength, [CHART, SHIP, 3, REPORTS, 0, 1, [2, 1]], tuple),
    (reason, [CHART, SHIP, 3, REPORTS, 0, 1, [2, 1]], list),
    (Letter, [2, [3, 1], "k1", [(0, "s0", 1, 3)]], Letter),
    (is_run, [POST, RUN], bool),
    (earliest_run, [POST], list),
    (latest_run, [POST], list),
    (seen, [POST, RUN, "k0", 5], list),
    (held, [POST, RUN, "k0", 5], list),
    (alike_runs, [POST, RUN, [[2, 3, 4], [0, 4], [2, 4, 5]], "k0", 4], bool),
]

# Each call that is refused, with its error.
REFUSALS = [
    (NoDriving, reach_hours, [CHART, SHIP, [[3], [0]], [1]]),
    (NoSuchNumber, driving_at, [CHART, SHIP, CORRIDOR, 10 ** 6]),
    (DoesNotFit, number_of, [CHART, SHIP, CORRIDOR, [0, 0, 1]]),
    (InvalidLight, Light, [12, "*"]),
    (InvalidReport, Report, [0, 0, [2, 1, 2]]),
    (InvalidReport, flash_reports, [CHART, [LIGHT], 4, 0, "*"]),
    (NoDriving, verdict, [CHART, SHIP, [[3], [0]], 1, [1]]),
    (NoDriving, settling, [CHART, SHIP, [[3], [0]], 1, [1], 7]),
    (InvalidLetter, Letter, [0, [2, 1], "k0", [(0, "s0", 0, 0), (2, "s0", 0, 0)]]),
]
