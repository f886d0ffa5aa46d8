"""Nets of all sorts for tests, each made by its seed."""

import random

from roadnet.measures import Measures

NAMES = ("inn", "mill", "a", "zzzzzzzz")


def any_deeds(dice, lag):
    many = [dice.choice((0, 0, 1, 1, 2, 3)) for _ in range(dice.randint(0, 6))]
    return [tuple(dice.randint(1, lag) for _ in range(delays)) for delays in many]


def fair_deeds(dice, lag, fair):
    """Deeds of which never so many as fair are lost one after another, round the end too."""
    deeds, lost = [(dice.randint(1, lag),)], 0
    for _ in range(dice.randint(0, 7)):
        is_lost = lost + 1 < fair and dice.random() < 0.6
        lost = lost + 1 if is_lost else 0
        deeds.append(() if is_lost else tuple(dice.randint(1, lag) for _ in range(dice.randint(1, 3))))
    return dice.choice(([], deeds, deeds))


def any_lines(dice, hands, with_none=True):
    pairs = [(a, b) for a in range(hands) for b in range(a + 1, hands)]
    pairs = dice.sample(pairs, dice.randint(min(len(pairs), hands - 1), len(pairs)))
    return [(a, b, None if with_none and dice.random() < 0.15 else dice.randint(1, 9)) for a, b in pairs]


def any_changes(dice, lines, many, last):
    changes = []
    for _ in range(many):
        a, b, _ = dice.choice(lines)
        changes.append((dice.randint(0, last), a, b, dice.choice((None, dice.randint(1, 20), dice.randint(1, 1000)))))
    return changes


def any_roads(dice, lines, deeds_of):
    ways = [way for a, b, _ in lines for way in ((a, b), (b, a))]
    return [(a, b, deeds_of()) for a, b in dice.sample(ways, dice.randint(0, len(ways)))]


def any_text(dice):
    return "".join(chr(dice.randint(32, 126)) for _ in range(dice.choice((1, 7, 8, 9, 16, 33, 40))))


def any_wishes(dice, hands, many, last):
    """Most streams are begun ahead of what is put into them, and some wishes come to nothing."""
    wishes, streams = [], []
    for _ in range(many):
        hand, turn = dice.randrange(hands), dice.randint(0, last)
        goal = dice.choice([other for other in range(hands) if other != hand])
        word = dice.choice(("begin", "begin", "put", "put", "put", "end", "bind", "bind", "free", "ask", "ask"))
        if word == "begin":
            streams.append((hand, goal))
            turn = turn // 3
        elif word in ("put", "end") and streams:
            hand, goal = dice.choice(streams)
        what = (goal, any_text(dice)) if word == "put" else goal if word in ("begin", "end") else dice.choice(NAMES)
        wishes.append((turn, hand, word, what))
    if dice.random() < 0.8:
        wishes.sort(key=lambda wish: wish[0])
    return wishes


def wild_net(seed):
    """Whatever the document lets be, with small measures, so that all that can go amiss does."""
    dice = random.Random(seed)
    hands, lag = dice.randint(2, 6), dice.randint(1, 5)
    measures = Measures(
        hands, lag, dice.randint(1, 12), dice.randint(1, 40), dice.choice((0, 1, 2, 6, 9)), dice.randint(1, 3),
        dice.randint(1, 3), dice.randint(1, 5), dice.randint(1, 12), dice.randint(0, 25),
    )
    lines = any_lines(dice, hands)
    changes = any_changes(dice, lines, dice.randint(0, 8), 80)
    roads = any_roads(dice, lines, lambda: any_deeds(dice, lag))
    return measures, lines, changes, roads, any_wishes(dice, hands, dice.randint(0, 25), 90)


def is_joined(hands, lines):
    """Whether all hands are reached over the lines."""
    met, ahead = {0}, [0]
    while ahead:
        hand = ahead.pop()
        for a, b in lines:
            for one, other in ((a, b), (b, a)):
                if one == hand and other not in met:
                    met.add(other)
                    ahead.append(other)
    return len(met) == hands


def at_last(lines, changes):
    """The prices of the lines behind all changes."""
    prices = {(a, b): price for a, b, price in lines}
    for turn in sorted({change[0] for change in changes}):
        prices.update({(a, b): price for when, a, b, price in changes if when == turn})
    return {pair: price for pair, price in prices.items() if price is not None}


def least_prices(hands, prices):
    """By pairs of hands the least sums of lines, None where there is none."""
    least = {(one, other): 0 if one == other else None for one in range(hands) for other in range(hands)}
    for (a, b), price in prices.items():
        least[a, b] = least[b, a] = price
    for by in range(hands):
        for one in range(hands):
            for other in range(hands):
                first, second, now = least[one, by], least[by, other], least[one, other]
                if first is not None and second is not None and (now is None or first + second < now):
                    least[one, other] = first + second
    return least


def fair_net(seed):
    """A net of roads of the fairness told with it, whose measures bear out that ways settle and all is done."""
    dice = random.Random(seed)
    hands, lag, fair = dice.randint(2, 4), dice.randint(1, 3), dice.randint(1, 3)
    step = fair + lag
    lines = any_lines(dice, hands)
    changes = any_changes(dice, lines, dice.randint(0, 6), 60)
    wishes = any_wishes(dice, hands, dice.randint(0, 12), 80)
    if not is_joined(hands, at_last(lines, changes)):
        wishes = [wish for wish in wishes if wish[2] in ("bind", "free", "ask")]
    window, room = dice.randint(1, 4), dice.randint(4, 16)
    places = window + 2 + dice.randint(0, 1)
    keys = {wish[1:4:2] for wish in wishes if wish[2] == "begin"} | {wish[1] for wish in wishes if wish[2] == "ask"}
    rounds = -(-places * max(2 * len(keys), 1) // room)
    crossing = (hands - 1) * (rounds + 1) * 2 * step
    measures = Measures(
        hands, lag, step + dice.randint(0, 3), (hands + 1) * step + dice.randint(0, 9), hands + dice.randint(0, 2),
        room, places, window, crossing + dice.randint(0, 5), dice.randint(0, 60),
    )
    roads = any_roads(dice, lines, lambda: fair_deeds(dice, lag, fair))
    return fair, (measures, lines, changes, roads, wishes)
