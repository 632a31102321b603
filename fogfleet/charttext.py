"""The text of a chart."""

from fogfleet.chart import Chart, GREATEST_DEPTH, GREATEST_TIDE, right_row
from fogfleet.errors import BadText
from fogfleet.words import number_of

DEPTHS_LINE = 1
TIDE_LINE = 2
HARBOURS_LINE = 3


def chart_line(word, numbers):
    """Return a line of a word and the numbers that follow it."""
    return " ".join([word] + [str(number) for number in numbers])


def format_chart(chart):
    """Return the text of the chart."""
    lines = [
        chart_line("depths", chart.depths),
        chart_line("tide", chart.tide),
        chart_line("harbours", chart.harbours),
    ]
    return "\n".join(lines + [chart_line("lane", lane) for lane in chart.lanes])


def read_numbers(lines, line, word, greatest):
    """Return the numbers that follow the word in the line counted from 1."""
    if line > len(lines):
        raise BadText(line)
    words = lines[line - 1].split(" ")
    numbers = [number_of(part, greatest) for part in words[1:]]
    if words[0] != word or None in numbers:
        raise BadText(line)
    return numbers


def read_row(lines, line, word, greatest):
    """Return the depths or the tide numbers of the line."""
    numbers = read_numbers(lines, line, word, greatest)
    if not right_row(numbers, greatest):
        raise BadText(line)
    return numbers


def read_harbours(lines, size):
    """Return the ascending harbours of a chart with this size."""
    harbours = read_numbers(lines, HARBOURS_LINE, "harbours", size - 1)
    if harbours != sorted(set(harbours)):
        raise BadText(HARBOURS_LINE)
    return harbours


def read_lanes(lines, size):
    """Return the ascending lanes of a chart with this size."""
    lanes = []
    for line in range(HARBOURS_LINE + 1, len(lines) + 1):
        lane = tuple(read_numbers(lines, line, "lane", size - 1))
        if len(lane) != 2 or lane[0] >= lane[1]:
            raise BadText(line)
        if lanes and lane <= lanes[-1]:
            raise BadText(line)
        lanes.append(lane)
    return lanes


def parse_chart(text):
    """Return the chart that has this text."""
    lines = text.split("\n")
    depths = read_row(lines, DEPTHS_LINE, "depths", GREATEST_DEPTH)
    tide = read_row(lines, TIDE_LINE, "tide", GREATEST_TIDE)
    harbours = read_harbours(lines, len(depths))
    lanes = read_lanes(lines, len(depths))
    return Chart(depths, lanes, tide=tide, harbours=harbours)
