"""Texts read as HOUSES, WAYS, STANDS and papers about two HOUSES.

Of each sort of row there is a look that tells whether a word can stand behind those ahead of it, a list."""

from hatchwaits.errors import NoText
from hatchwaits.houses import is_rule
from hatchwaits.texts import BESIDE, NOTHING, NO_BEAT
from hatchwaits.wording import beat_in, number_in, person_in


def fits_house(ahead, word):
    """Tell whether a word can stand in a HOUSE."""
    if len(ahead) == 0:
        return number_in(word, 1) is not None
    if len(ahead) == 1:
        return word == NOTHING or number_in(word, 0) is not None
    return len(ahead) == 2 and is_rule(word)


def fits_way(ahead, word):
    """Tell whether a word can stand in a WAY."""
    if word == NO_BEAT:
        return len(ahead) == 0
    return ahead != [NO_BEAT] and beat_in(word) is not None


def fits_stand(ahead, word):
    """Tell whether a word can stand in a STAND."""
    if word == NOTHING:
        return len(ahead) == 0
    return ahead != [NOTHING] and person_in(word) is not None


def fits_head(ahead, word):
    """Tell whether a word can stand in the first row of a paper."""
    return len(ahead) == 0 and word in ("kept", "parted")


def fits_pair(ahead, word):
    """Tell whether a word can stand in a row behind kept."""
    if BESIDE in ahead:
        return fits_stand(ahead[ahead.index(BESIDE) + 1:], word)
    if word == BESIDE:
        return len(ahead) > 0
    return fits_stand(ahead, word)


def fits_parting(ahead, word):
    """Tell whether a word can stand in a row behind parted."""
    return len(ahead) == 0 and beat_in(word) is not None


def words_of(row, text, fits):
    """The words of a text that is a row of this number; or NoText where one can't stand."""
    words = text.split(" ")
    for k, word in enumerate(words):
        if not fits(words[:k], word):
            raise NoText(row, k)
    return words


def read_house(text):
    """The HOUSE that a text writes; or NoText."""
    words = words_of(0, text, fits_house)
    if len(words) < 3:
        raise NoText(0, len(words))
    hands, places, rule = words
    return (int(hands), None if places == NOTHING else int(places), rule)


def read_way(text):
    """The WAY that a text writes; or NoText."""
    words = words_of(0, text, fits_way)
    return () if words == [NO_BEAT] else tuple([beat_in(word) for word in words])


def stand_of(words):
    """The STAND that words write."""
    return () if words == [NOTHING] else tuple([person_in(word) for word in words])


def read_stand(text):
    """The STAND that a text writes; or NoText."""
    return stand_of(words_of(0, text, fits_stand))


def read_pair(row, text):
    """The PAIR that a row behind kept writes; or NoText."""
    words = words_of(row, text, fits_pair)
    if BESIDE not in words or words[-1] == BESIDE:
        raise NoText(row, len(words))
    at = words.index(BESIDE)
    return (stand_of(words[:at]), stand_of(words[at + 1:]))


def read_parting(row, text):
    """The BEAT that a row behind parted writes; or NoText."""
    return beat_in(words_of(row, text, fits_parting)[0])


def read_paper(lines):
    """The paper about two HOUSES that a list of texts writes; or NoText."""
    if len(lines) == 0:
        raise NoText(0, 0)
    word = words_of(0, lines[0], fits_head)[0]
    rows = list(enumerate(lines))[1:]
    if word == "kept":
        return (word, tuple([read_pair(row, text) for row, text in rows]))
    return (word, tuple([read_parting(row, text) for row, text in rows]))
