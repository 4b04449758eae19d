"""A kept canal apart from the package: all deeds are done anew, from the first one on, each time something is asked."""

import copy

from crosslocks import errors
from tests.apart import is_sure


class Refused(Exception):
    def __init__(self, name, worth):
        Exception.__init__(self, name, worth)
        self.name, self.worth = name, worth


FIELDS = {"NoLock": "lock", "NoBoat": "going", "NoBasin": "basin", "Short": "many"}


class State:
    def __init__(self, canal, standing):
        self.reds, self.blues, locks = canal
        self.locks = [tuple(lock) for lock in locks]
        self.boats = {"red": list(standing[0]), "blue": list(standing[1])}
        self.stands = list(standing[2])
        self.hands = {"red": [0] * self.reds, "blue": [0] * self.blues, "locks": [0] * len(self.locks)}
        self.gone = {"red": [0] * len(self.locks), "blue": [0] * len(self.locks)}

    def lock(self, number):
        if number not in range(len(self.locks)):
            raise Refused("NoLock", number)

    def basin(self, water, number):
        if number not in range(self.reds if water == "red" else self.blues):
            raise Refused("NoBasin", number)

    def go(self, lock, water):
        self.lock(lock)
        a, c, x, y = self.locks[lock]
        start, end = {"red": (a, c), "blue": (x, y)}[water]
        if self.stands[lock]:
            start, end = end, start
        if not self.boats[water][start]:
            raise Refused("NoBoat", (lock, water))
        self.boats[water][start] -= 1
        self.boats[water][end] += 1
        self.gone[water][lock] += -1 if self.stands[lock] else 1
        self.stands[lock] ^= 1

    def row(self, goings):
        for lock, water in goings:
            self.go(lock, water)

    def fill(self, water, basin, many):
        self.basin(water, basin)
        self.boats[water][basin] += many
        self.hands[water][basin] += many

    def drain(self, water, basin, many):
        self.basin(water, basin)
        if self.boats[water][basin] < many:
            raise Refused("Short", many - self.boats[water][basin])
        self.fill(water, basin, -many)

    def turn(self, lock):
        self.lock(lock)
        self.hands["locks"][lock] += -1 if self.stands[lock] else 1
        self.stands[lock] ^= 1

    def dig(self, a, c, x, y):
        for water, basin in ("red", a), ("red", c), ("blue", x), ("blue", y):
            self.basin(water, basin)
        self.locks.append((a, c, x, y))
        for row in (self.stands, self.hands["locks"], self.gone["red"], self.gone["blue"]):
            row.append(0)
        return len(self.locks) - 1


class Model:
    def __init__(self, canal, standing):
        self.first = copy.deepcopy((canal, standing))
        self.deeds, self.log = [], []

    def state(self, many=None):
        state = State(*self.first)
        for word, handed in self.deeds[:many]:
            getattr(state, word)(*handed)
        return state

    def do(self, word, *handed):
        """What is told of a deed; Refused where it's refused."""
        self.log += [("in", word), ("out", word)]
        if word == "undo":
            stood = bool(self.deeds)
            del self.deeds[-1:]
            return stood
        told = getattr(self.state(), word)(*copy.deepcopy(handed))
        self.deeds.append((word, copy.deepcopy(handed)))
        return told

    def as_of(self, many):
        other = Model(*self.first)
        other.deeds = self.deeds[:many]
        return other

    def canal(self):
        state = self.state()
        return state.reds, state.blues, tuple(state.locks)

    def standing(self):
        state = self.state()
        return tuple(state.boats["red"]), tuple(state.boats["blue"]), tuple(state.stands)

    def hands(self):
        hands = self.state().hands
        return hands["red"], hands["blue"], hands["locks"]

    def went(self):
        gone = self.state().gone
        return gone["red"], gone["blue"]

    def almanac(self):
        """What really went by each sure lock."""
        canal = self.canal()
        return [pair if is_sure(canal, lock) else None for lock, pair in enumerate(zip(*self.went()))]

    def pays(self, tolls):
        """What was really paid."""
        reds, blues = self.went()
        return sum(red * many + blue * more for (red, blue), many, more in zip(tolls, reds, blues))


def some_deed(chance, model, wrong=0.15):
    """A deed, and now and then one that's refused."""
    reds, blues, locks = model.canal()
    beyond = chance.random() < wrong
    water = chance.choice(("red", "blue"))
    basins = reds if water == "red" else blues

    def number(many):
        """A place, or one that isn't there."""
        if many == 0 or beyond and chance.random() < 0.5:
            return chance.choice((-1, many, many + 5, 10 ** 13, -many))
        return chance.randrange(many)

    word = chance.choice(("go",) * 6 + ("row",) * 2 + ("fill", "drain", "turn", "undo") + ("dig",) * (len(locks) < 10))
    if word == "go":
        return word, number(len(locks)), water
    if word == "row":
        return word, some_goings(chance, model, beyond)
    if word in ("fill", "drain"):
        return word, water, number(basins), chance.choice((1, 1, 2, 7, 10 ** 12))
    if word == "turn":
        return word, number(len(locks))
    if word == "dig":
        return word, number(reds), number(reds), number(blues), number(blues)
    return (word,)


def some_goings(chance, model, beyond):
    """A row in which all may go, but where one goes beyond."""
    state, row = model.state(), []
    for _ in range(chance.randint(0, 8)):
        goings = []
        for lock in range(len(state.locks)):
            for water in ("red", "blue"):
                then = copy.deepcopy(state)
                try:
                    then.go(lock, water)
                except Refused:
                    continue
                goings.append(((lock, water), then))
        if not goings:
            break
        going, state = chance.choice(goings)
        row.append(going)
    if beyond:
        lock = chance.choice((-1, len(state.locks), 0, len(state.locks) - 1))
        row.insert(chance.randint(0, len(row)), (lock, chance.choice(("red", "blue"))))
    return row


def error_of(refusal):
    """The class that the package refuses with, the name of its field and what that has."""
    return getattr(errors, refusal.name), FIELDS[refusal.name], refusal.worth
