"""Limits that several files share."""

MOST_PLACES = 12
MOST_SHIPS = 4
GREATEST_HOUR = 24
