"""Sightings of lights: where a ship was that saw them."""

from fogfleet.lights import flashes, sight_zone
from fogfleet.reports import Report


def lights_seen(lights, hour, word):
    """Return the indexes of the lights that show the word from the hour on."""
    return [index for index, light in enumerate(lights) if flashes(light, hour, len(word)) == word]


def flash_zone(chart, lights, hour, word):
    """Return the zone of the places from which a light is visible that shows the word."""
    zones = [sight_zone(chart, lights[index]) for index in lights_seen(lights, hour, word)]
    return [place for place in range(chart.size) if any([place in zone for zone in zones])]


def flash_reports(chart, lights, ship, hour, word, weight=1):
    """Return the reports of a ship that saw the word, one for each of its hours."""
    zone = flash_zone(chart, lights, hour, word)
    return [Report(ship, hour + later, zone, weight=weight) for later in range(len(word))]
