"""Texts written and looked at a second time, straight by the words of promises 76 and 77."""

import itertools
import re

from tests.helpers import RULES

SIGNS = "".join(chr(code) for code in range(32, 127) if chr(code) != "%")
FROM_ONE = "[1-9][0-9]{0,11}"
COMER = f"[01]:{FROM_ONE}"
BEAT = rf"-|{COMER}(,{COMER})*"
PERSON = rf"{COMER}\*?"

# Of each sort of row: letters, each for the words that a pattern tells, and which rows of letters are whole ones.
SORTS = {
    "house": ([("p", FROM_ONE), ("z", "0"), ("d", "-"), ("r", "|".join(RULES))], "p[pzd]r"),
    "way": ([("b", BEAT), ("n", "none")], "b+|n"),
    "stand": ([("p", PERSON), ("d", "-")], "p+|d"),
    "head": ([("k", "kept|parted")], "k"),
    "kept": ([("p", PERSON), ("d", "-"), ("s", "/")], "(p+|d)s(p+|d)"),
    "parted": ([("b", BEAT)], "b"),
}


def letter_of(sort, word):
    for letter, pattern in SORTS[sort][0]:
        if re.fullmatch(pattern, word):
            return letter
    return "x"


def goes_on(sort, letters):
    """Whether some row of letters, whole, begins with these."""
    known, whole = SORTS[sort]
    more = "".join(letter for letter, pattern in known)
    return any(re.fullmatch(whole, letters + "".join(end))
               for many in range(4) for end in itertools.product(more, repeat=many))


def wrong_word(sort, text):
    """The first word that can't stand, or how many there are where one lacks; None of a right text."""
    words = text.split(" ")
    letters = "".join(letter_of(sort, word) for word in words)
    for k in range(len(words)):
        if not goes_on(sort, letters[:k + 1]):
            return k
    return None if re.fullmatch(SORTS[sort][1], letters) else len(words)


def wrong_place(lines):
    """(row, word) of a paper's first fault, None of a right one."""
    if lines == []:
        return (0, 0)
    sorts = ["head"] + [lines[0].split(" ")[0]] * (len(lines) - 1)
    for row, (sort, text) in enumerate(zip(sorts, lines)):
        word = wrong_word(sort, text)
        if word is not None:
            return (row, word)
    return None


def written_house(house):
    return " ".join(["-" if part is None else str(part) for part in house])


def written_beat(beat):
    return ",".join(str(rank) + ":" + str(work) for rank, work in beat) or "-"


def written_way(way):
    return " ".join(map(written_beat, way)) or "none"


def written_stand(stand):
    return " ".join(str(rank) + ":" + str(left) + "*" * begun for rank, left, begun in stand) or "-"


def written_paper(paper):
    word, entries = paper
    if word == "kept":
        return ["kept"] + [written_stand(one) + " / " + written_stand(other) for one, other in entries]
    return ["parted"] + list(map(written_beat, entries))


def changed_texts(text):
    """All that a text becomes where one sign is another one, is missing, or is put in; and some more."""
    signs = " -,:/*0129+nkx~"
    told = [text[:at] + text[at + 1:] for at in range(len(text))]
    told += [text[:at] + sign + text[at:] for at in range(len(text) + 1) for sign in signs]
    told += [text[:at] + sign + text[at + 1:] for at in range(len(text)) for sign in signs]
    words = text.split(" ")
    told += [" ".join(words[:at] + words[at + 1:]) for at in range(len(words))]
    told += [" ".join(words[:at] + [word] + words[at:]) for at in range(len(words) + 1)
             for word in ("", "-", "none", "/", "0", "1", "0:1", "0:1*", "1:2,0:3", "first", "kept", "parted", "+1", "007")]
    return told + [text + text, text + " " + text, text.upper(), text[::-1], " ".join(words[::-1])]


def drawn_text(draw, signs=SIGNS, most=30):
    return "".join(draw.choice(signs) for k in range(draw.randint(0, most)))


def drawn_number(draw, least):
    """A number from least on of at most twelve figures."""
    return draw.choice([least, least + 1, 9, 10, 10 ** 12 - 1, 10 ** 11, draw.randint(least, 10 ** draw.randint(1, 12) - 1)])


def long_house(draw):
    return (drawn_number(draw, 1), draw.choice([None, 0, drawn_number(draw, 0)]), draw.choice(RULES))


def long_beat(draw, most=3):
    return tuple((draw.randint(0, 1), drawn_number(draw, 1)) for k in range(draw.randint(0, most)))


def long_way(draw, most=5):
    return tuple(long_beat(draw) for k in range(draw.randint(0, most)))


def long_stand(draw, most=4):
    return tuple((draw.randint(0, 1), drawn_number(draw, 1), draw.random() < 0.5) for k in range(draw.randint(0, most)))


def long_paper(draw, most=4):
    if draw.random() < 0.5:
        return ("parted", long_way(draw, most))
    return ("kept", tuple((long_stand(draw), long_stand(draw)) for k in range(draw.randint(0, most))))
