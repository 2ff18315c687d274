"""Workshops: a relation with named dials, a shape and set places, and deeds that can be undone."""

from rulertrees.decimals import integer_of, written_integer
from rulertrees.errors import BadNames, BadPlace, BadShape, BadText, DoesNotFit, DoesNotHold, NoName, NotTheLast
from rulertrees.errors import NothingToRedo, NothingToUndo
from rulertrees.frames import tidied
from rulertrees.items import count_dials
from rulertrees.language import are_names
from rulertrees.matrices import two_adjoint
from rulertrees.places import STAY, check_change, check_place, moved
from rulertrees.relations import changed, check_three_dials, holds, is_relation, last_place
from rulertrees.shapes import is_shape
from rulertrees.trees import judge_shape


def replaced(things, at, fresh):
    """A tuple with another item at an index."""
    return things[:at] + (fresh,) + things[at + 1:]


class Workshop:
    """A relation with a name for each dial, a shape that fits or none, and places of the dials that are set."""

    def __init__(self, relation, names):
        check_three_dials(relation)
        many = count_dials(relation)
        if not are_names(names, many):
            raise BadNames(names)
        # All that a workshop tells is one tuple, so each deed leaves the one ahead of it to be undone.
        self.now = (relation, names, None, (None,) * many)
        self.done = []
        self.undone = []

    def relation(self):
        """The relation."""
        return self.now[0]

    def names(self):
        """The names of the dials."""
        return self.now[1]

    def shape(self):
        """The shape, None if there is none."""
        return self.now[2]

    def places(self):
        """The places of the dials, None for those that are not set."""
        return self.now[3]

    def dial_of(self, name):
        """The dial with a name."""
        if name not in self.names():
            raise NoName(name)
        return self.names().index(name)

    def do_deed(self, relation, names, shape, places):
        """Keeps what was, and all that a deed makes of it."""
        self.done.append(self.now)
        self.now = (relation, names, shape, places)
        self.undone = []

    def put(self, name, place):
        """Sets a dial at a place."""
        dial = self.dial_of(name)
        check_place(place)
        places = replaced(self.places(), dial, place)
        if None not in places and not holds(self.relation(), places):
            raise DoesNotHold(places)
        self.do_deed(self.relation(), self.names(), self.shape(), places)

    def clear(self, name):
        """Sets a dial no longer."""
        places = replaced(self.places(), self.dial_of(name), None)
        self.do_deed(self.relation(), self.names(), self.shape(), places)

    def turn(self, name, change):
        """Uses another ruler for a dial."""
        dial = self.dial_of(name)
        check_change(change)
        places = self.places()
        back = replaced((STAY,) * len(places), dial, two_adjoint(change))
        if places[dial] is not None:
            places = replaced(places, dial, moved(change, places[dial]))
        self.do_deed(changed(self.relation(), back), self.names(), self.shape(), places)

    def swap(self, one, other):
        """Exchanges two names."""
        first, second = self.dial_of(one), self.dial_of(other)
        names = replaced(replaced(self.names(), first, other), second, one)
        self.do_deed(self.relation(), names, self.shape(), self.places())

    def choose(self, shape):
        """Takes a tidy shape that fits."""
        if not is_shape(shape) or tidied(shape) != shape:
            raise BadShape(shape)
        # This raises BadShape, too, if the shape has another number of outer dials.
        certificate = judge_shape(self.relation(), shape)
        if certificate[0] == "inner":
            raise DoesNotFit(certificate)
        self.do_deed(self.relation(), self.names(), shape, self.places())

    def drop(self):
        """Takes the shape away."""
        self.do_deed(self.relation(), self.names(), None, self.places())

    def last(self, name):
        """The place of the one dial that is not set, None if every place will do."""
        dial = self.dial_of(name)
        others = self.places()[:dial] + self.places()[dial + 1:]
        if self.places()[dial] is not None or None in others:
            raise NotTheLast(name)
        return last_place(self.relation(), dial, others)

    def undo(self):
        """Takes the last deed back."""
        if not self.done:
            raise NothingToUndo()
        self.undone.append(self.now)
        self.now = self.done.pop()

    def redo(self):
        """Does the deed again that was taken back last."""
        if not self.undone:
            raise NothingToRedo()
        self.done.append(self.now)
        self.now = self.undone.pop()

    def copied(self):
        """Another workshop that is the same, with the same deeds to undo and to redo."""
        other = Workshop(self.relation(), self.names())
        other.now = self.now
        other.done = list(self.done)
        other.undone = list(self.undone)
        return other

    def text(self):
        """The text of the workshop."""
        lines = [line_of("relation", self.relation()), " ".join(["dials", *self.names()])]
        if self.shape() is not None:
            nodes = [",".join(map(written_integer, node)) for node in self.shape()]
            lines.append(" ".join(["shape", *nodes]))
        for name, place in zip(self.names(), self.places()):
            if place is not None:
                lines.append(line_of("set " + name, place))
        return "\n".join(lines)

    def is_same(self, thing):
        """Whether any value is a workshop with the same text."""
        return isinstance(thing, Workshop) and thing.text() == self.text()


def line_of(start, numbers):
    """A line that goes on with integers."""
    return " ".join([start, *[written_integer(number) for number in numbers]])


def integers_of(words):
    """The integers of words, None for words that are none."""
    return tuple(integer_of(word) for word in words)


def new_workshop(lines):
    """The workshop of the first two lines of a text; raises BadText with the first one that is wrong or missing."""
    start, *words = lines[0].split(" ")
    relation = integers_of(words)
    if start != "relation" or not is_relation(relation) or count_dials(relation) < 3:
        raise BadText(1)
    if len(lines) < 2:
        raise BadText(2)
    start, *names = lines[1].split(" ")
    if start != "dials" or not are_names(tuple(names), count_dials(relation)):
        raise BadText(2)
    return Workshop(relation, tuple(names))


def choose_as_told(shop, words):
    """Takes the shape of a line; whether the line is right."""
    try:
        shop.choose(tuple(integers_of(word.split(",")) for word in words[1:]))
    except (BadShape, DoesNotFit):
        return False
    return True


def set_as_told(shop, words):
    """Sets the dial of a line, none being set yet from this dial on; whether the line is right."""
    if len(words) != 4 or words[0] != "set" or words[1] not in shop.names():
        return False
    if any(place is not None for place in shop.places()[shop.dial_of(words[1]):]):
        return False
    try:
        shop.put(words[1], integers_of(words[2:]))
    except (BadPlace, DoesNotHold):
        return False
    return True


def read_workshop(text):
    """The workshop with a text, and with no deeds to undo or redo."""
    if not isinstance(text, str):
        raise BadText(0)
    lines = text.split("\n")
    shop = new_workshop(lines)
    for number, line in enumerate(lines[2:], start=3):
        words = line.split(" ")
        if number == 3 and words[0] == "shape":
            right = choose_as_told(shop, words)
        else:
            right = set_as_told(shop, words)
        if not right:
            raise BadText(number)
    shop.done = []
    return shop
