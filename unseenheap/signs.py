"""Texts and the words that they have in the heap: one for the number of each sign."""

from unseenheap.laying import FIRST_SIGN
from unseenheap.words import INTEGER_TAG, TAGS

# All signs that may stand in texts by their numbers; a blank stands in the place of the one that may not.
SIGNS = (
    " !\"#$ &'()*+,-./0123456789:;<=>?"
    "@ABCDEFGHIJKLMNOPQRSTUVWXYZ[\\]^_`abcdefghijklmnopqrstuvwxyz{|}~"
)


def words_of_text(text):
    """The words of a text's signs."""
    return [ord(sign) * TAGS + INTEGER_TAG for sign in text]


def text_of_words(found):
    """The text that has these words."""
    return text_of_numbers([word // TAGS for word in found])


def text_of_numbers(found):
    """The text with signs of these numbers."""
    return "".join([SIGNS[number - FIRST_SIGN] for number in found])
