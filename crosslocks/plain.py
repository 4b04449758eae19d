"""What the other files share for telling kinds of values apart and for copying what is handed in."""


def is_number(thing):
    """Python takes True and False for whole numbers; here they aren't."""
    return isinstance(thing, int) and not isinstance(thing, bool)


def is_number_from(thing, least):
    return is_number(thing) and thing >= least


def is_place(thing, many):
    """Whether a thing is the place of one of so many, counted from 0."""
    return is_number(thing) and 0 <= thing < many


def is_tuple_of(thing, many):
    return isinstance(thing, tuple) and len(thing) == many


def tupled(thing):
    """The same with tuples for lists, at any depth: a copy that nobody else can change."""
    if isinstance(thing, (list, tuple)):
        return tuple([tupled(part) for part in thing])
    return thing
