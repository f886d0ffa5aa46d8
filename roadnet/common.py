"""What several files of the package need."""

from roadnet.errors import BadPast


# Python counts True and False as ints; the program does not.
def is_whole(thing):
    return isinstance(thing, int) and not isinstance(thing, bool)


def is_within(thing, least, most):
    return is_whole(thing) and least <= thing <= most


def is_text_of(thing, most, first, last):
    if not isinstance(thing, str) or not 1 <= len(thing) <= most:
        return False
    return all([first <= sign <= last for sign in thing])


# last is None as long as no turn was told: then every turn is good.
def refuse_below(turn, last):
    if last is not None and turn < last:
        raise BadPast(last)


# Lists and dicts may be changed behind by whoever handed them in or was told them, within tuples too.
def own_copy(thing):
    if isinstance(thing, list):
        return [own_copy(part) for part in thing]
    if isinstance(thing, tuple):
        return tuple([own_copy(part) for part in thing])
    if isinstance(thing, dict):
        return dict([(key, own_copy(part)) for key, part in thing.items()])
    return thing
