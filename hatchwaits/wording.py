"""What single words write; each function tells None of a word that writes no such thing."""

from hatchwaits.texts import BEGUN, NOTHING

FIGURES = "0123456789"
MOST_FIGURES = 12


def number_in(word, least):
    """The NUMBER from least on that a word writes."""
    if not 0 < len(word) <= MOST_FIGURES or not all([sign in FIGURES for sign in word]):
        return None
    number = int(word)
    # A 0 ahead of other figures is lost in the NUMBER, so its text is another one.
    return number if number >= least and str(number) == word else None


def comer_in(word):
    """The COMER that a word writes."""
    rank, colon, work = word.partition(":")
    number = number_in(work, 1)
    if rank not in ("0", "1") or number is None:
        return None
    return (int(rank), number)


def beat_in(word):
    """The BEAT that a word writes."""
    if word == NOTHING:
        return ()
    comers = [comer_in(part) for part in word.split(",")]
    return None if None in comers else tuple(comers)


def person_in(word):
    """The PERSON that a word writes."""
    begun = word.endswith(BEGUN)
    comer = comer_in(word[:-1] if begun else word)
    return None if comer is None else (comer[0], comer[1], begun)
