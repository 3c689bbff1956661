"""HOUSES, WAYS, STANDS and papers about two HOUSES written as texts."""

NOTHING = "-"
NO_BEAT = "none"
BEGUN = "*"
BESIDE = "/"


def shown_numbers(numbers):
    """NUMBERS, parted by single blanks."""
    return " ".join([str(number) for number in numbers]) if len(numbers) > 0 else NOTHING


def shown_house(house):
    """The text of a HOUSE."""
    hands, places, rule = house
    bound = NOTHING if places is None else str(places)
    return f"{hands} {bound} {rule}"


def shown_beat(beat):
    """The text of a BEAT."""
    return ",".join([f"{rank}:{work}" for rank, work in beat]) if len(beat) > 0 else NOTHING


def shown_way(way):
    """The text of a WAY."""
    return " ".join([shown_beat(beat) for beat in way]) if len(way) > 0 else NO_BEAT


def shown_person(person):
    """The text of a PERSON."""
    rank, left, begun = person
    mark = BEGUN if begun else ""
    return f"{rank}:{left}{mark}"


def shown_stand(stand):
    """The text of a STAND."""
    return " ".join([shown_person(person) for person in stand]) if len(stand) > 0 else NOTHING


def shown_paper(paper):
    """The rows of a paper about two HOUSES, right or not."""
    word, entries = paper
    if word == "parted":
        return [word] + [shown_beat(beat) for beat in entries]
    return [word] + [f"{shown_stand(one)} {BESIDE} {shown_stand(other)}" for one, other in entries]
