"""Zones, and corridors that are made narrower by them."""


def right_zone(places, size):
    """Tell whether these are different places below size."""
    if not all([0 <= place < size for place in places]):
        return False
    return len(set(places)) == len(places)


def narrowed(corridor, hour, zone, inside):
    """Return a corridor that keeps at the hour only its places in the zone, or those outside."""
    found = [list(places) for places in corridor]
    for now, places in enumerate(corridor):
        if now == hour:
            found[now] = [place for place in places if (place in zone) == inside]
    return found
