"""Questions: was a ship in a zone at an hour, and which look-out would settle it?"""

from fogfleet.errors import NoDriving
from fogfleet.reach import first_driving
from fogfleet.tables import possible_places
from fogfleet.zones import narrowed


def verdict(chart, ship, corridor, hour, zone):
    """Return the word for a question with the first drivings for it and against it."""
    supporting = first_driving(chart, ship, narrowed(corridor, hour, zone, True))
    opposing = first_driving(chart, ship, narrowed(corridor, hour, zone, False))
    if supporting is None and opposing is None:
        raise NoDriving(0)
    if opposing is None:
        return ("sure", supporting, None)
    if supporting is None:
        return ("never", None, opposing)
    return ("open", supporting, opposing)


def apart(first, second):
    """Tell whether two zones have no place in common."""
    return not any([place in second for place in first])


def settling(chart, ship, corridor, hour, zone, after=0):
    """Return the best look-out that settles an open question, or None."""
    supporting = possible_places(chart, ship, narrowed(corridor, hour, zone, True))
    opposing = possible_places(chart, ship, narrowed(corridor, hour, zone, False))
    if not supporting[0] and not opposing[0]:
        raise NoDriving(0)
    if not supporting[0] or not opposing[0]:
        return None
    best = None
    for now, (yes, no) in enumerate(zip(supporting, opposing)):
        if now < after or not apart(yes, no):
            continue
        # Of zones alike in number the earlier one stays, and yes comes before no.
        for watch, meaning in ((yes, True), (no, False)):
            if best is None or len(watch) < len(best[1]):
                best = (now, watch, meaning)
    return best
