"""Stage 9: what a net is told ahead, its lines, changes, roads and wishes, and what of it is refused."""

from roadnet.common import is_text_of, is_whole, is_within
from roadnet.errors import BadLine, BadWish
from roadnet.names import is_name
from roadnet.roads import refuse_bad_road

MOST_PRICE = 1000
MOST_TURN = 10000
MOST_TEXT = 40


# A line is one for both directions, so its ends stand for it in one order alone.
def pair_of(one, other):
    return (min(one, other), max(one, other))


def is_row(thing, many):
    return isinstance(thing, tuple) and len(thing) == many


def is_turn(thing):
    return is_within(thing, 0, MOST_TURN)


def is_price(thing):
    return thing is None or is_within(thing, 1, MOST_PRICE)


def is_hand(thing, hands):
    return is_within(thing, 0, hands - 1)


def is_line(thing, hands):
    if not is_row(thing, 3) or not is_hand(thing[0], hands) or not is_hand(thing[1], hands):
        return False
    return thing[0] < thing[1] and is_price(thing[2])


# Asked ahead of any look into a dict: True would be found there as 1, and a list can't be looked up at all.
def are_whole(one, other):
    return is_whole(one) and is_whole(other)


def is_change(thing, pairs):
    if not is_row(thing, 4) or not is_turn(thing[0]) or not are_whole(thing[1], thing[2]):
        return False
    return (thing[1], thing[2]) in pairs and is_price(thing[3])


# Whether its deeds are good is not asked here: they are refused otherwise.
def is_road(thing, pairs):
    if not is_row(thing, 3) or not are_whole(thing[0], thing[1]):
        return False
    return pair_of(thing[0], thing[1]) in pairs


def is_wish(thing, hands):
    if not is_row(thing, 4) or not is_turn(thing[0]) or not is_hand(thing[1], hands):
        return False
    word = thing[2]
    what = thing[3]
    if word in ("begin", "end"):
        return is_goal(what, thing[1], hands)
    if word == "put":
        return is_row(what, 2) and is_goal(what[0], thing[1], hands) and is_text_of(what[1], MOST_TEXT, " ", "~")
    return word in ("bind", "free", "ask") and is_name(what)


def is_goal(thing, hand, hands):
    return is_hand(thing, hands) and thing != hand


# Told are the pairs of hands that a line joins, as the keys of a dict.
def good_pairs(lines, hands):
    pairs = {}
    for at, line in enumerate(lines):
        if not is_line(line, hands) or (line[0], line[1]) in pairs:
            raise BadLine(at)
        pairs[(line[0], line[1])] = True
    return pairs


def refuse_bad_changes(changes, pairs):
    for at, change in enumerate(changes):
        if not is_change(change, pairs):
            raise BadLine(at)


def refuse_bad_roads(roads, pairs, lag):
    told = {}
    for at, road in enumerate(roads):
        if not is_road(road, pairs) or (road[0], road[1]) in told:
            raise BadLine(at)
        refuse_bad_road(road[2], lag)
        told[(road[0], road[1])] = True


def refuse_bad_wishes(wishes, hands):
    for at, wish in enumerate(wishes):
        if not is_wish(wish, hands):
            raise BadWish(at)


def refuse_bad_plan(measures, lines, changes, roads, wishes):
    pairs = good_pairs(lines, measures.hands)
    refuse_bad_changes(changes, pairs)
    refuse_bad_roads(roads, pairs, measures.lag)
    refuse_bad_wishes(wishes, measures.hands)


# Changes and wishes both begin with their turn. Those of one turn stay in their order.
def by_turns(rows):
    turns = {}
    for row in rows:
        turns.setdefault(row[0], []).append(row)
    return turns


def last_turn(rows, otherwise):
    return max([row[0] for row in rows], default=otherwise)
