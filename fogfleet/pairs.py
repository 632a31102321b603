"""Sets of pairs of amounts of fuel, one of each of two ships, written as numbers.

Bit FIRST * fuel + SECOND * other of the number of a set is 1 if the pair
(fuel, other) belongs to the set. So one shift takes the fuel of a step from
all pairs at once. A tank has at most 8 units and a step at most 3 lanes, so
what is shifted too far never comes to a place of another pair.
"""

FIRST = 16
SECOND = 1


def amounts(most, unit):
    """Return the set of the amounts from 0 to most of one ship, without fuel of the other one."""
    return sum([1 << unit * fuel for fuel in range(most + 1)])


def pairs_up_to(fuel, other):
    """Return the set of all pairs in which no ship has more than this."""
    return amounts(fuel, FIRST) * amounts(other, SECOND)


def has_pair(pairs, fuel, other):
    """Tell whether the pair belongs to the set."""
    return pairs >> (FIRST * fuel + SECOND * other) & 1 == 1


class Side:
    """What the steps of one of two ships mean for sets of pairs."""

    def __init__(self, unit, ship, other_unit, other_ship):
        self.unit = unit
        self.tank = ship.tank
        self.own = amounts(ship.tank, unit)
        # The pairs in which this ship has no fuel.
        self.empty = amounts(other_ship.tank, other_unit)
        self.full = self.own * self.empty

    def at_least(self, fuel):
        """Return all pairs in which this ship has at least so much fuel."""
        least = self.unit * fuel
        return (self.own >> least << least) * self.empty

    def below(self, fuel):
        """Return all pairs in which this ship has less fuel."""
        return self.full & ~self.at_least(fuel)

    def after(self, harbour, lanes, pairs):
        """Return what is left after a step with so many lanes, perhaps to a harbour.

        The set has with each pair all that have less, and so has the result.
        """
        left = pairs >> self.unit * lanes
        if harbour:
            return (left & self.empty) * self.own
        return left & self.full

    def before(self, harbour, lanes, pairs):
        """Return the pairs with which such a step is possible and leads into the set."""
        if harbour:
            full_tank = pairs >> self.unit * self.tank & self.empty
            return self.at_least(lanes) & full_tank * self.own
        return pairs << self.unit * lanes & self.full


def sides(first, second):
    """Return the sides of the two ships."""
    return (Side(FIRST, first, SECOND, second), Side(SECOND, second, FIRST, first))
