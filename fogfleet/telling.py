"""Telling lights apart by what they show."""

from math import gcd

from fogfleet.lights import flashes


def agreeing_shifts(a, b, count):
    """Return the least shifts at which the lights agree over so many hours, or None."""
    words = [flashes(b, shift, count) for shift in range(len(b.pattern))]
    for shift in range(len(a.pattern)):
        word = flashes(a, shift, count)
        if word in words:
            return (shift, words.index(word))
    return None


def telling_length(a, b):
    """Return the least number of hours over which no shifts agree, or None if there is none."""
    first = len(a.pattern)
    second = len(b.pattern)
    # Lights that agree over so many hours agree for ever, which is the last promise of point 24.
    most = first + second - gcd(first, second)
    for count in range(1, most + 1):
        if agreeing_shifts(a, b, count) is None:
            return count
    return None


def readings(lights, word):
    """Return the tuples (index, shift) of the lights that show the word from the shift on."""
    found = []
    for index, light in enumerate(lights):
        for shift in range(len(light.pattern)):
            if flashes(light, shift, len(word)) == word:
                found.append((index, shift))
    return found


def certain_light(lights, word):
    """Return the index of the only light that has readings of the word, or None."""
    found = readings(lights, word)
    # The indexes ascend, so they are all alike if the first and the last one are.
    if found and found[0][0] == found[-1][0]:
        return found[0][0]
    return None
