"""Stage 3: ways to each hand, kept by what neighbours tell of theirs, with marks that only get better."""


def better(one, other):
    if one[0] != other[0]:
        return one[0] > other[0]
    return one[1] < other[1]


class Ways:
    def __init__(self, me):
        self.me = me
        self.own = 0
        # By goals, then by neighbours: the pair (generation, price or None) of the last report.
        self.last_reports = {}
        self.line_prices = {}
        self.marks = {}
        # By goals: (generation, price, next hand), or None where there is no way.
        self.ways = {}

    def raise_own(self):
        self.own = self.own + 1

    def heard(self, neighbour, reports):
        for goal, generation, price in reports:
            if goal != self.me:
                by_neighbours = self.last_reports.setdefault(goal, {})
                by_neighbours[neighbour] = (generation, price)

    def priced(self, neighbour, price):
        self.line_prices[neighbour] = price

    def settle(self):
        for goal in sorted(self.last_reports):
            way = self.best_way(goal)
            self.ways[goal] = way
            if way is not None:
                self.better_mark(goal, (way[0], way[1]))

    # Only reports better than the mark are taken: so no ring can come about, however old the reports are.
    def may_take(self, goal, neighbour, report):
        if self.line_prices.get(neighbour) is None or report[1] is None:
            return False
        mark = self.marks.get(goal)
        return mark is None or better(report, mark)

    def best_way(self, goal):
        least = None
        for neighbour, report in self.last_reports[goal].items():
            if self.may_take(goal, neighbour, report):
                # In this order tuples compare as ways are chosen: the greatest generation is the least one below 0.
                choice = (report[1] + self.line_prices[neighbour], -report[0], neighbour)
                least = choice if least is None else min(least, choice)
        if least is None:
            return None
        return (-least[1], least[0], least[2])

    # A way may be worse than the mark: the mark never follows it there.
    def better_mark(self, goal, mark):
        if goal not in self.marks or better(mark, self.marks[goal]):
            self.marks[goal] = mark

    def reports(self):
        return [self.report_of(goal) for goal in sorted([self.me] + list(self.marks))]

    def report_of(self, goal):
        way = self.ways.get(goal)
        generation = self.mark_of(goal)[0] if way is None else way[0]
        return (goal, generation, self.price_of(goal))

    def next_of(self, goal):
        way = self.ways.get(goal)
        return None if way is None else way[2]

    def price_of(self, goal):
        if goal == self.me:
            return 0
        way = self.ways.get(goal)
        return None if way is None else way[1]

    def mark_of(self, goal):
        if goal == self.me:
            return (self.own, 0)
        return self.marks.get(goal)


def chain(next_ofs, start, goal):
    hands = [start]
    while hands[-1] != goal:
        next_of = next_ofs[hands[-1]]
        hand = next_of(goal)
        if hand is None:
            return hands
        was_met = hand in hands
        hands.append(hand)
        if was_met:
            return hands
    return hands
