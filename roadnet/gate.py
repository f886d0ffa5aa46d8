"""Stage 5: gates share a line's room fairly among the keys under which parcels wait."""

from roadnet.common import own_copy


class Gate:
    def __init__(self, places):
        self.places = places
        # The keys under which parcels wait, the one that gives next first.
        self.row = []
        # By keys: the parcels that wait, the oldest first. A key under which none waits isn't there.
        self.kept = {}

    def put(self, key, parcel):
        parcels = self.kept.get(key, [])
        if parcel in parcels:
            return True
        if len(parcels) >= self.places:
            return False
        if not parcels:
            self.row.append(key)
        self.kept[key] = parcels + [own_copy(parcel)]
        return True

    def out(self, many):
        given_out = []
        while self.row and len(given_out) < many:
            given_out.append(self.give_one())
        return given_out

    def give_one(self):
        key = self.row.pop(0)
        parcels = self.kept.pop(key)
        if len(parcels) > 1:
            self.row.append(key)
            self.kept[key] = parcels[1:]
        return parcels[0]

    def waiting(self):
        return list(self.row)

    def waits(self, key):
        return len(self.kept.get(key, []))
