"""Gates: sets of hours."""


class Gate:
    """A set of hours, which never changes once it is made."""

    def __init__(self, hours):
        self.hours = tuple(sorted(hours))

    def __iter__(self):
        """Go through the hours in ascending order; `in` asks by this, too."""
        return iter(self.hours)

    def first_from(self, hour):
        """Return the least hour that is not before this one, or None."""
        for opened in self.hours:
            if opened >= hour:
                return opened
        return None

    def both(self, other):
        """Return the gate of the hours that belong to both gates."""
        return Gate([hour for hour in self.hours if hour in other.hours])

    def either(self, other):
        """Return the gate of the hours that belong to one of the gates."""
        return Gate(sorted(set(self.hours + other.hours)))

    def shrunk(self, low, high):
        """Return the gate of the hours from which all delays from low to high lead into this one."""
        opened = {hour: True for hour in self.hours}
        found = []
        for hour in [first - low for first in self.hours if first >= low]:
            if all([hour + delay in opened for delay in range(low, high + 1)]):
                found.append(hour)
        return Gate(found)


def tide_gate(chart, place, draught, last):
    """Return the gate of the hours up to the last one at which the place has water enough."""
    return Gate([hour for hour in range(last + 1) if chart.water(place, hour) >= draught])
