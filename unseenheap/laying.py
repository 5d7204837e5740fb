"""How a thing lies in words: its head, its number, then its own words, which may not be all words."""

from unseenheap.words import INTEGER_TAG, NIL_WORD, TAGS, THING_TAG

SORTS = ("text", "list", "object", "function", "cell", "tie")
SORT_NUMBERS = {"text": 0, "list": 1, "object": 2, "function": 3, "cell": 4, "tie": 5}
TEXT_SORT = 0
TIE_SORT = 5
# How many words a thing takes ahead of its own: its head and its number.
AHEAD = 2
MOST_WORDS = 60000
FIRST_SIGN = 32
LAST_SIGN = 126
BARRED_SIGN = 37


def is_things(word):
    """Whether a word is a thing's."""
    return word & (TAGS - 1) == THING_TAG


def may_be(sort, found):
    """Whether words, one behind another, may be those of a thing of a sort."""
    if not may_be_many(sort, len(found)):
        return False
    return all([may_stand(sort, place, word) for place, word in enumerate(found)])


def may_be_many(sort, many):
    """Whether a thing of a sort may have so many words."""
    if sort == "cell" or sort == "tie":
        return many == 1
    return many <= MOST_WORDS and (many > 0 or sort == "text" or sort == "list")


def may_stand(sort, place, word):
    """Whether a word may stand at a place of a thing of a sort."""
    if sort == "text":
        return is_signs(word)
    if sort == "tie":
        return is_things(word) or word == NIL_WORD
    return place > 0 or sort in ("list", "cell") or word & (TAGS - 1) == INTEGER_TAG


def is_signs(word):
    """Whether a word is one that may stand in a text."""
    return word & (TAGS - 1) == INTEGER_TAG and is_sign(word // TAGS)


def is_sign(number):
    """Whether an integer is the number of a sign that may stand in texts."""
    return FIRST_SIGN <= number <= LAST_SIGN and number != BARRED_SIGN


class Laid:
    """Words in which things lie; each thing is told by its address."""

    def __init__(self, words):
        self.words = words

    def settled(self, at):
        """Where the thing with an address lies by now."""
        head = self.words[at]
        return at if head >= 0 else -1 - head

    def sort_at(self, at):
        """The sort of the thing at an address."""
        return SORTS[self.words[at] & (TAGS - 1)]

    def size_at(self, at):
        """How many words the thing at an address has."""
        return self.words[at] // TAGS

    def number_at(self, at):
        """The number of the thing at an address."""
        return self.words[at + 1]

    def words_at(self, at):
        """The words of the thing at an address, in order."""
        return self.words[at + AHEAD:at + AHEAD + self.words[at] // TAGS]
