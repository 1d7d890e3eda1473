"""Names, marks, and sieves, which let lists of marks by."""

from thinbook.errors import NoMark

LETTERS = "abcdefghijklmnopqrstuvwxyz"
LONGEST_NAME = 12
LONGEST_MARK = 8


def is_small_word(thing, longest):
    if not isinstance(thing, str):
        return False
    return 1 <= len(thing) and len(thing) <= longest and all([sign in LETTERS for sign in thing])


def is_name(thing):
    return is_small_word(thing, LONGEST_NAME)


def is_mark(thing):
    return is_small_word(thing, LONGEST_MARK)


def words_of(text):
    if not isinstance(text, str):
        raise NoMark("a sieve is told by a text")
    # The text without signs has no words, not one word without signs.
    return [] if text == "" else text.split(" ")


def is_barring(word):
    return word.startswith("-") and is_mark(word[1:])


def sieve(text):
    """The function that tells of a list of marks whether it has all marks of the text, and none behind a -."""
    words = words_of(text)
    if not all([is_mark(word) or is_barring(word) for word in words]):
        raise NoMark("a word of a sieve is a mark, or a - and a mark")
    wanted = [word for word in words if is_mark(word)]
    barred = [word[1:] for word in words if is_barring(word)]

    def lets(marks):
        return all([mark in marks for mark in wanted]) and not any([mark in marks for mark in barred])

    return lets
