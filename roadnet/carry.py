"""Stage 6: parcels go from hand to hand along the ways, each going taken from their count."""

from roadnet.common import own_copy


def handled(me, parcel, next_of):
    goal = parcel[0]
    count = parcel[2]
    if goal == me:
        return ("here", own_copy(parcel))
    if count == 0:
        return ("gone", "count")
    hand = next_of(goal)
    if hand is None:
        return ("gone", "none")
    return ("on", hand, (goal, parcel[1], count - 1, own_copy(parcel[3])))


def carried(parcel, start, next_ofs):
    hands = [start]
    told = handled(start, parcel, next_ofs[start])
    while told[0] == "on":
        hand = told[1]
        hands.append(hand)
        told = handled(hand, told[2], next_ofs[hand])
    end = told[1] if told[0] == "gone" else "here"
    return (hands, end)
