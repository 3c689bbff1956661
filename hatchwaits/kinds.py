"""The looks that the kinds of several modules share; each takes any thing."""


def is_number(thing):
    """Tell whether a thing is a NUMBER."""
    # To Python a truth is an int, so it has to be kept out by name.
    return isinstance(thing, int) and not isinstance(thing, bool)


def is_number_from(least, thing):
    """Tell whether a thing is a NUMBER from least on."""
    return is_number(thing) and thing >= least


def is_rank(thing):
    """Tell whether a thing is a rank, 0 or 1."""
    return is_number(thing) and 0 <= thing <= 1


def is_tuple_of(many, thing):
    """Tell whether a thing is a tuple of just so many things."""
    return isinstance(thing, tuple) and len(thing) == many
