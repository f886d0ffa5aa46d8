"""Stage 4: links make of bad letters parcels that come once, in order."""

from roadnet.common import own_copy
from roadnet.errors import Full


class Out:
    def __init__(self, room):
        self.room = room
        self.given = 0
        # Pairs (number, parcel), the least number first.
        self.kept = []

    def free(self):
        return self.room - len(self.kept)

    def put(self, parcel):
        if len(self.kept) >= self.room:
            raise Full("as many parcels are kept as the room")
        number = self.given
        self.kept.append((number, own_copy(parcel)))
        self.given = number + 1
        return number

    def told(self, got):
        self.kept = [pair for pair in self.kept if pair[0] >= got]

    def parcels(self):
        return own_copy(tuple(self.kept))


class In:
    def __init__(self):
        self.got = 0

    def took(self, pairs):
        handed_on = []
        for number, parcel in pairs:
            if number == self.got:
                self.got = number + 1
                handed_on.append(own_copy(parcel))
        return handed_on
