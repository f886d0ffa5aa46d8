"""Stage 9: what is reckoned ahead: from which turn on ways are least, and by which one all is done."""

from roadnet.talk import MOST_SIGNS


def rounded_up(number, by):
    return (number + by - 1) // by


# Within so many turns a letter comes, where one is sent in each turn.
def letter_turns(measures, fair):
    return fair + measures.lag


def settled_turn(measures, fair, last):
    first = last + measures.lag + measures.miss + fair + 2 * measures.raise_each
    return first + (2 * measures.hands + 2) * letter_turns(measures, fair)


def crossing_turns(measures, fair, keys):
    rounds = rounded_up(measures.places * max(keys, 1), measures.room)
    return (measures.hands - 1) * (rounds + 1) * 2 * letter_turns(measures, fair)


# A stream's pieces go under one key, and its answers under another; so do asks and what is told to them.
def keys_of(wishes):
    streams = len(set([(wish[1], wish[3]) for wish in wishes if wish[2] == "begin"]))
    askers = len(set([wish[1] for wish in wishes if wish[2] == "ask"]))
    return 2 * (streams + askers)


def things_most(wishes):
    by_streams = {}
    for wish in wishes:
        word = wish[2]
        what = wish[3]
        if word in ("begin", "end"):
            by_streams[(wish[1], what)] = by_streams.get((wish[1], what), 0) + 1
        elif word == "put":
            things = rounded_up(len(what[1]), MOST_SIGNS)
            by_streams[(wish[1], what[0])] = by_streams.get((wish[1], what[0]), 0) + things
    return max(list(by_streams.values()), default=0)


def ways_hold(measures, fair):
    turns = letter_turns(measures, fair)
    if measures.miss < turns or measures.raise_each < (measures.hands + 1) * turns:
        return False
    return measures.count >= measures.hands


def done_turn(measures, fair, last, wishes):
    crossing = crossing_turns(measures, fair, keys_of(wishes))
    if not ways_hold(measures, fair) or measures.wait < crossing or measures.places < measures.window + 2:
        return None
    each = measures.window + measures.wait + 4 * crossing + 4
    return settled_turn(measures, fair, last) + 2 * crossing + things_most(wishes) * each
