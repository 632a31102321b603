"""Numbers as words of texts and lines."""


def number_of(word, greatest):
    """Return the number that the word writes, or None.

    None stands for a word that is no number as the program writes it, and
    for a number above the greatest one.
    """
    # Python refuses to read very long numbers, so the length comes first.
    if len(word) > len(str(greatest)) or not (word.isascii() and word.isdigit()):
        return None
    number = int(word)
    if str(number) != word or number > greatest:
        return None
    return number
