"""Point 43: settings."""

import itertools
import unittest

from fogfleet.chart import Chart
from fogfleet.errors import FleetError, InvalidSetting
from fogfleet.letters import Letter
from fogfleet.reports import Report, corridor_of
from fogfleet.setting import Setting
from fogfleet.ships import Ship
from tests.helpers import HUGE, line_chart

CHART = line_chart(5)
SHIP = Ship(0)
LETTER = Letter(2, [4, 0], "k1", [(0, "s0", 1, 3), (1, "k0", 0, 2)])


class SettingTest(unittest.TestCase):
    def refuse(self, part, *parts, **more):
        with self.assertRaises(InvalidSetting) as caught:
            Setting(*parts, **more)
        self.assertEqual(caught.exception.part, part)
        self.assertIsInstance(caught.exception, FleetError)

    def test_attributes(self):
        other, reports = Ship(3), [Report(0, 1, [0]), Report(1, 2, [4])]
        for kind in (list, tuple):
            setting = Setting(CHART, 3, kind([SHIP, other]), reports=kind(reports),
                              letters=kind([LETTER, LETTER]))
            self.assertIs(setting.chart, CHART)
            self.assertEqual(setting.horizon, 3)
            self.assertEqual(setting.ships, (SHIP, other))
            self.assertEqual(setting.reports, tuple(reports))
            self.assertEqual(setting.letters, (LETTER, LETTER))

    def test_reports_and_letters_left_out(self):
        setting = Setting(CHART, 3, [SHIP])
        self.assertEqual((setting.ships, setting.reports, setting.letters), ((SHIP,), (), ()))
        self.assertEqual(Setting(CHART, 3, [SHIP], letters=[LETTER]).reports, ())
        self.assertEqual(Setting(CHART, 3, [SHIP], reports=[Report(0, 0, [])]).letters, ())
        with self.assertRaises(TypeError):
            Setting(CHART, 3, [SHIP], [])

    def test_horizons(self):
        for horizon in (0, 1, 23, 24):
            self.assertEqual(Setting(CHART, horizon, [SHIP]).horizon, horizon)
        for horizon in (-1, 25, HUGE, -HUGE):
            self.refuse("horizon", CHART, horizon, [SHIP])

    def test_the_number_of_ships(self):
        for many in range(1, 5):
            self.assertEqual(len(Setting(CHART, 0, [SHIP] * many).ships), many)
        for ships in ([], (), [SHIP] * 5, [SHIP] * 9):
            self.refuse("ships", CHART, 0, ships)

    def test_reports(self):
        for many in range(1, 5):
            for ship in range(4):
                reports = [Report(0, 0, []), Report(ship, 0, [])]
                if ship < many:
                    self.assertEqual(Setting(CHART, 0, [SHIP] * many, reports=reports).reports,
                                     tuple(reports))
                else:
                    self.refuse("reports", CHART, 0, [SHIP] * many, reports=reports)
        for hour in range(25):
            for horizon in (0, 7, 24):
                if hour <= horizon:
                    Setting(CHART, horizon, [SHIP], reports=[Report(0, hour, [])])
                else:
                    self.refuse("reports", CHART, horizon, [SHIP], reports=[Report(0, hour, [])])
        Setting(CHART, 0, [SHIP], reports=[Report(0, 0, [4, 0])])
        for zone in ([5], [11], [0, 5], [5, 4]):
            for inside in (True, False):
                self.refuse("reports", CHART, 0, [SHIP],
                            reports=[Report(0, 0, [0]), Report(0, 0, zone, inside=inside)])
        Setting(Chart([0] * 12, []), 24, [SHIP] * 4, reports=[Report(3, 24, list(range(12)))] * 40)

    def test_letters(self):
        Setting(CHART, 2, [SHIP], letters=[LETTER] * 6)
        self.refuse("letters", CHART, 2, [SHIP], letters=[LETTER] * 7)
        self.refuse("letters", CHART, 1, [SHIP], letters=[LETTER])
        self.refuse("letters", CHART, 1, [SHIP], letters=[Letter(0, [], "k0", []), LETTER])
        for place in (5, 11):
            self.refuse("letters", CHART, 2, [SHIP], letters=[LETTER, Letter(0, [0, place], "k0", [])])
        for number, many in itertools.product(range(4), range(1, 5)):
            hops = [(0, "k9", 0, 0), (1, f"s{number}", 0, 0), (0, "k9", 0, 0)]
            letters = [LETTER, Letter(0, [], "k0", hops)]
            if number < many:
                self.assertEqual(Setting(CHART, 2, [SHIP] * many, letters=letters).letters, tuple(letters))
            else:
                self.refuse("letters", CHART, 2, [SHIP] * many, letters=letters)
        Setting(Chart([0] * 12, []), 24, [SHIP], letters=[Letter(24, list(range(12)), "k0", [])])

    def test_the_first_wrong_part_is_named(self):
        order = ["horizon", "ships", "reports", "letters"]
        wrong = {"horizon": -1, "ships": [], "reports": [Report(0, 0, [5])],
                 "letters": [Letter(0, [5], "k0", [])]}
        right = {"horizon": 2, "ships": [SHIP], "reports": [Report(0, 0, [4])], "letters": [LETTER]}
        for mask in range(1, 16):
            bad = [part for k, part in enumerate(order) if mask >> k & 1]
            parts = {part: (wrong if part in bad else right)[part] for part in order}
            self.refuse(bad[0], CHART, parts["horizon"], parts["ships"],
                        reports=parts["reports"], letters=parts["letters"])
        # A horizon that is too great makes no report late, but it is named itself.
        self.refuse("horizon", CHART, 25, [SHIP], reports=[Report(0, 24, [5])])

    def test_corridor(self):
        reports = [Report(0, 1, [0, 2]), Report(1, 0, [4]), Report(0, 1, [2], inside=False),
                   Report(0, 2, [])]
        setting = Setting(CHART, 2, [SHIP, Ship(9), SHIP], reports=reports)
        self.assertEqual(setting.corridor(0), [[0, 1, 2, 3, 4], [0], []])
        self.assertEqual(setting.corridor(1), [[4], [0, 1, 2, 3, 4], [0, 1, 2, 3, 4]])
        for number in range(3):
            self.assertEqual(setting.corridor(number), corridor_of(CHART, 2, reports, number))
        self.assertEqual(Setting(CHART, 0, [SHIP]).corridor(0), [[0, 1, 2, 3, 4]])
        self.assertEqual(Setting(CHART, 24, [SHIP]).corridor(0), [[0, 1, 2, 3, 4]] * 25)

    def test_what_callers_change_later(self):
        ships, reports, letters = [SHIP], [Report(0, 0, [1])], [LETTER]
        setting = Setting(CHART, 2, ships, reports=reports, letters=letters)
        ships.append(SHIP)
        reports.append(Report(0, 0, []))
        letters.clear()
        self.assertEqual((len(setting.ships), len(setting.reports), setting.letters), (1, 1, (LETTER,)))
        setting.corridor(0)[0].append(7)
        self.assertEqual(setting.corridor(0)[0], [1])


if __name__ == "__main__":
    unittest.main()
