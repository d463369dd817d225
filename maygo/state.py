"""What is kept from one call to the next."""

FIRST_DAYS = (0, 3, 10, 120)


class Item:
    def __init__(self, units, category, hours):
        self.units = units
        self.category = category
        self.hours = hours
        # Pairs (day found, 1 if extended else 0), kept sorted: the order of
        # such pairs is the order of broken units, so the oldest stands first.
        self.broken = []
        # Triples (day found, 1 if extended else 0, day of the repair), in the
        # order in which the repairs were made.
        self.repairs = []


class Rule:
    # What a rule of this kind has no use for is 0 or empty.
    def __init__(self, kind, a, x, b, y, condition, listed):
        self.kind = kind
        self.a = a
        self.x = x
        self.b = b
        self.y = y
        self.condition = condition
        self.listed = listed


class State:
    def __init__(self):
        self.begin()

    # Apart from __init__, so that clear can come back to the very same.
    def begin(self):
        self.equipment = []
        self.rules = []
        # Triples (day, item, what happened), in the order in which they happened.
        self.events = []
        self.days = FIRST_DAYS
        self.lasting = 0
        self.today = 0
