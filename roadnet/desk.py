"""Stage 10: a desk keeps a net, and answers rows of text about it."""

from roadnet.errors import NoRow
from roadnet.names import is_name
from roadnet.net import Net
from roadnet.plan import MOST_TURN, last_turn
from roadnet.reckon import done_turn, settled_turn, ways_hold
from roadnet.roads import fairness
from roadnet.texts import is_number, net_text, number_text, numbers_text, read_net, row_text, thing_text
from roadnet.ways import chain

NET_WORD = "net\n"
NOTHING = "-"


def lines_text(texts):
    return "\n".join(texts) if texts else NOTHING


def run_answer(desk, values):
    return number_text(desk.net.run(values[0]))


def turn_answer(desk, values):
    return number_text(desk.net.turn)


def done_answer(desk, values):
    return "yes" if desk.net.is_done() else "no"


def text_answer(desk, values):
    plan = desk.plan
    return net_text(plan[0], plan[1], plan[2], plan[3], plan[4])


def next_answer(desk, values):
    return number_text(desk.net.next_of(values[0], values[1]))


def price_answer(desk, values):
    return number_text(desk.net.price_of(values[0], values[1]))


def mark_answer(desk, values):
    mark = desk.net.mark_of(values[0], values[1])
    return number_text(None) if mark is None else numbers_text(mark)


# A def of its own for each hand: a lambda made in a walk would read the last hand walked alone.
def next_of_hand(net, hand):
    return lambda goal: net.next_of(hand, goal)


def chain_answer(desk, values):
    next_ofs = [next_of_hand(desk.net, hand) for hand in range(desk.plan[0].hands)]
    return numbers_text(chain(next_ofs, values[0], values[1]))


def found_answer(desk, values):
    return number_text(desk.net.whose(values[0], values[1]))


def read_answer(desk, values):
    texts = []
    for row in desk.net.rows():
        if row[0] == "read" and row[2] == values[0] and row[3] == values[1]:
            texts.extend([thing_text(thing) for thing in row[4]])
    return lines_text(texts)


def rows_answer(desk, values):
    return lines_text([row_text(row) for row in desk.net.rows_in(values[0])])


# None where a road that was told never brings a letter. A road that wasn't told brings each one.
def worst_fairness(roads):
    each = [fairness(road[2]) for road in roads]
    return None if None in each else max(each, default=1)


def settled_answer(desk, values):
    measures = desk.plan[0]
    fair = worst_fairness(desk.plan[3])
    if fair is None or not ways_hold(measures, fair):
        return number_text(None)
    return number_text(settled_turn(measures, fair, last_turn(desk.plan[2], 0)))


def doneby_answer(desk, values):
    fair = worst_fairness(desk.plan[3])
    if fair is None:
        return number_text(None)
    wishes = desk.plan[4]
    return number_text(done_turn(desk.plan[0], fair, last_turn(desk.plan[2] + wishes, 0), wishes))


# Of each row, by its first word: the kinds of the words behind, and what answers it.
ANSWERS = {
    "run": (("turn",), run_answer),
    "turn": ((), turn_answer),
    "done": ((), done_answer),
    "text": ((), text_answer),
    "next": (("hand", "hand"), next_answer),
    "price": (("hand", "hand"), price_answer),
    "mark": (("hand", "hand"), mark_answer),
    "chain": (("hand", "hand"), chain_answer),
    "found": (("hand", "name"), found_answer),
    "read": (("hand", "hand"), read_answer),
    "rows": (("turn",), rows_answer),
    "settled": ((), settled_answer),
    "doneby": ((), doneby_answer),
}


def value_of(kind, word, hands):
    if kind == "name":
        if not is_name(word):
            raise NoRow(0)
        return word
    most = MOST_TURN if kind == "turn" else hands - 1
    if not is_number(word) or int(word) > most:
        raise NoRow(0)
    return int(word)


class Desk:
    def __init__(self):
        self.net = None
        # What the net was told, as it is read: measures, lines, changes, roads, wishes.
        self.plan = None

    def say(self, row):
        if not isinstance(row, str):
            raise NoRow(0)
        if row.startswith(NET_WORD):
            return self.begin(row[len(NET_WORD):])
        words = row.split(" ")
        if self.net is None or words[0] not in ANSWERS:
            raise NoRow(0)
        kinds = ANSWERS[words[0]][0]
        answer = ANSWERS[words[0]][1]
        if len(words) != len(kinds) + 1:
            raise NoRow(0)
        hands = self.plan[0].hands
        return answer(self, [value_of(kind, word, hands) for kind, word in zip(kinds, words[1:])])

    # The old net stays until the new one is made: it may be refused till then.
    def begin(self, text):
        plan = read_net(text)
        net = Net(plan[0], plan[1], plan[2], plan[3], plan[4])
        self.plan = plan
        self.net = net
        return "ok"
