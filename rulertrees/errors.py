"""The errors of the package: one direct subclass of RulerError for each kind of failure."""


class RulerError(Exception):
    """The base class of all errors of the package."""


class AllZero(RulerError):
    """All integers of a tuple or a pair are 0, or there are none."""


class BadPlace(RulerError):
    """A value is no place."""

    def __init__(self, thing):
        self.thing = thing


class BadChange(RulerError):
    """A value is no change, or no whole change where one is asked for."""

    def __init__(self, thing):
        self.thing = thing


class BadRelation(RulerError):
    """A value is no relation, or not one of the kind that is asked for."""

    def __init__(self, thing):
        self.thing = thing


class BadPlaces(RulerError):
    """A value is no tuple of just so many places."""

    def __init__(self, thing):
        self.thing = thing


class BadDial(RulerError):
    """A value is no dial."""

    def __init__(self, dial):
        self.dial = dial


class BadChanges(RulerError):
    """A value is no tuple of just so many changes."""

    def __init__(self, thing):
        self.thing = thing


class BadOrder(RulerError):
    """A value is no tuple with each dial once."""

    def __init__(self, thing):
        self.thing = thing


class TooManyDials(RulerError):
    """A product would have more than six dials."""


class BadSplit(RulerError):
    """A value is no split of a relation."""

    def __init__(self, thing):
        self.thing = thing


class BadCube(RulerError):
    """A value is no cube, or no proper cube where one is asked for."""

    def __init__(self, thing):
        self.thing = thing


class BadForm(RulerError):
    """A value is no positive form."""

    def __init__(self, thing):
        self.thing = thing


class OtherForms(RulerError):
    """Positive forms have unlike discriminants."""


class BadPoint(RulerError):
    """A value is no point or line, or a point stands where it must not."""

    def __init__(self, thing):
        self.thing = thing


class BadMap(RulerError):
    """A value is no plane map."""

    def __init__(self, thing):
        self.thing = thing


class BadRuler(RulerError):
    """A value is no ruler."""

    def __init__(self, thing):
        self.thing = thing


class BadChart(RulerError):
    """A value is no chart."""

    def __init__(self, thing):
        self.thing = thing


class BadText(RulerError):
    """A value is no text."""

    def __init__(self, at):
        self.at = at


class ByZero(RulerError):
    """A text divides by zero."""

    def __init__(self, at):
        self.at = at


class AlwaysTrue(RulerError):
    """An equation holds at all places."""


class NeverTrue(RulerError):
    """An equation holds at no place."""


class TooHigh(RulerError):
    """A name has an exponent above 1."""

    def __init__(self, name):
        self.name = name


class TooManyNames(RulerError):
    """More than six names stand in an equation."""


class BadNames(RulerError):
    """A value is no names for the dials."""

    def __init__(self, thing):
        self.thing = thing


class FarPart(RulerError):
    """A relation cannot be written, since it holds whenever a dial is at the far place."""

    def __init__(self, dial):
        self.dial = dial


class BadShape(RulerError):
    """A value is no shape, or not one of the kind that is asked for."""

    def __init__(self, thing):
        self.thing = thing


class BadTree(RulerError):
    """A value is no tree, or not one of the kind that is asked for."""

    def __init__(self, thing):
        self.thing = thing


class OtherShapes(RulerError):
    """Two trees have unlike shapes."""


class Loose(RulerError):
    """Two trees have one relation, but it does not fix their inner dials."""


class BadHanging(RulerError):
    """A value is no hanging."""

    def __init__(self, thing):
        self.thing = thing


class BadEnd(RulerError):
    """A value is no end of a node that can be exchanged."""

    def __init__(self, thing):
        self.thing = thing


class BadRing(RulerError):
    """A value is no ring."""

    def __init__(self, thing):
        self.thing = thing


class BadSeam(RulerError):
    """A value is no seam of a ring."""

    def __init__(self, thing):
        self.thing = thing


class BadSheet(RulerError):
    """A value is no sheet."""

    def __init__(self, at):
        self.at = at


class BadQuestion(RulerError):
    """A value is no question."""

    def __init__(self, thing):
        self.thing = thing


class BadGrid(RulerError):
    """A value is no grid."""

    def __init__(self, thing):
        self.thing = thing


class BadOrders(RulerError):
    """A value is no orders of a group."""

    def __init__(self, thing):
        self.thing = thing


class OtherSizes(RulerError):
    """Two grids have unlike sizes."""


class NoName(RulerError):
    """A workshop has no dial of this name."""

    def __init__(self, name):
        self.name = name


class DoesNotHold(RulerError):
    """A relation does not hold at places."""

    def __init__(self, places):
        self.places = places


class DoesNotFit(RulerError):
    """A shape does not fit a relation."""

    def __init__(self, certificate):
        self.certificate = certificate


class NotTheLast(RulerError):
    """A dial is not the last one that is not set."""

    def __init__(self, name):
        self.name = name


class NothingToUndo(RulerError):
    """A workshop has no deed to undo."""


class NothingToRedo(RulerError):
    """A workshop has no deed to redo."""
