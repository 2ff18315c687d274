"""Relations told back from readings: what follows from a sheet, how free it leaves a relation, and what to ask."""

from rulertrees.errors import BadPlace, BadPlaces, BadQuestion, BadSheet
from rulertrees.kinds import is_integer, is_integers, is_tuple_of, is_word
from rulertrees.places import FAR, are_places, is_place
from rulertrees.relations import check_places, is_relation
from rulertrees.tables import dot, multipliers_of, null_space, rank

NUMBERS_TOLD = (1, 2, 3, 4)
ZERO = (0, 1)
# At the readings with these places alone, any two relations differ.
ENDS = ((0, 1), (1, 0))
# If there is a keen question, there is one with these places alone.
ASKED = ((0, 1), (1, 0), (1, 1))


def check_sheet(n, sheet):
    """Raises BadSheet with the first position at which no reading for n dials stands, with 0 if there is no tuple."""
    if not isinstance(sheet, tuple):
        raise BadSheet(0)
    for at, reading in enumerate(sheet):
        if not are_places(reading, n):
            raise BadSheet(at)


def products_of(reading):
    """The products of a reading."""
    found = (1,)
    for a, b in reading:
        found = tuple(item for number in found for item in (number * a, number * b))
    return found


def products(reading):
    """The products of a reading for one to four dials."""
    if not any(are_places(reading, n) for n in NUMBERS_TOLD):
        raise BadPlaces(reading)
    return products_of(reading)


def table_of_sheet(sheet):
    """The table of the products of the readings of a sheet."""
    return tuple(products_of(reading) for reading in sheet)


def readings_of(n, places):
    """All readings for n dials with no other places than the given ones, in the order of these."""
    found = [()]
    for _ in range(n):
        found = [reading + (place,) for reading in found for place in places]
    return found


def agreeing(n, sheet):
    """As many relations as the freedom tells that agree with a sheet, none of them made of the others."""
    check_sheet(n, sheet)
    return tuple(null_space(table_of_sheet(sheet), 1 << n))


def freedom(n, sheet):
    """The greatest number of relations that agree with a sheet, none of them made of the others."""
    check_sheet(n, sheet)
    return (1 << n) - rank(table_of_sheet(sheet))


def only_relation(n, sheet):
    """The one relation that agrees with a sheet, None if there is none or more than one."""
    found = agreeing(n, sheet)
    return found[0] if len(found) == 1 else None


def against(relations, reading):
    """The first of some relations that does not hold at a reading, None if there is none."""
    numbers = products_of(reading)
    for relation in relations:
        if dot(relation, numbers) != 0:
            return relation
    return None


def next_reading(n, sheet):
    """The first reading at places (0, 1) and (1, 0) that does not follow from a sheet, None if all follow."""
    relations = agreeing(n, sheet)
    for reading in readings_of(n, ENDS):
        if against(relations, reading) is not None:
            return reading
    return None


def judge_follows(n, sheet, reading):
    """A certificate that a reading follows from a sheet, or that it does not."""
    relations = agreeing(n, sheet)
    check_places(reading, n)
    relation = against(relations, reading)
    if relation is not None:
        return ("free", relation)
    return ("follows",) + multipliers_of(table_of_sheet(sheet), products_of(reading))


def follows_holds(n, sheet, reading, thing):
    """Whether any value is a certificate for a sheet and a reading."""
    check_sheet(n, sheet)
    check_places(reading, n)
    if is_tuple_of(thing, 2) and is_word(thing[0], "free"):
        return is_agreeing(n, sheet, thing[1]) and dot(thing[1], products_of(reading)) != 0
    if not is_tuple_of(thing, 3) or not is_word(thing[0], "follows"):
        return False
    _, many, multipliers = thing
    if not is_integer(many) or many == 0 or not is_integers(multipliers, len(sheet)):
        return False
    table = table_of_sheet(sheet)
    return all(
        many * number == sum(times * row[at] for times, row in zip(multipliers, table))
        for at, number in enumerate(products_of(reading))
    )


def is_agreeing(n, sheet, thing):
    """Whether any value is a relation of n dials that agrees with a sheet."""
    if not is_relation(thing) or len(thing) != 1 << n:
        return False
    return all(dot(thing, numbers) == 0 for numbers in table_of_sheet(sheet))


def is_question(n, thing):
    """Whether any value is a question for n dials."""
    if not is_tuple_of(thing, 2) or not is_integer(thing[0]) or not 0 <= thing[0] < n:
        return False
    return are_places(thing[1], n - 1)


def answered(question, place):
    """The reading that consists of the places of a question and a place for its dial."""
    dial, places = question
    return places[:dial] + (place,) + places[dial:]


def pair_left(relation, question):
    """The two integers that are left of a relation when all dials but that of a question are at its places."""
    numbers = [products_of(answered(question, place)) for place in (FAR, ZERO)]
    return (dot(relation, numbers[0]), dot(relation, numbers[1]))


def parts_all(relations, question):
    """Whether any answer of a relation that is made of some ones rules out some of these."""
    # The pairs that are left must not all be multiples of one: that one's place would rule out nothing,
    # nor would None if there is not even one.
    return rank([pair_left(relation, question) for relation in relations]) == 2


def keen_question(n, sheet):
    """A keen question for a sheet, None if the freedom of the sheet is at most 1."""
    relations = agreeing(n, sheet)
    if len(relations) < 2:
        return None
    asked = [(dial, places) for dial in range(n) for places in readings_of(n - 1, ASKED)]
    return [question for question in asked if parts_all(relations, question)][0]


def is_keen(n, sheet, thing):
    """Whether any value is a keen question for a sheet."""
    relations = agreeing(n, sheet)
    return is_question(n, thing) and parts_all(relations, thing)


def told(n, sheet, question, answer):
    """The sheet with the readings added that an answer to a question tells."""
    check_sheet(n, sheet)
    if not is_question(n, question):
        raise BadQuestion(question)
    if answer is None:
        return sheet + (answered(question, ZERO), answered(question, FAR))
    if not is_place(answer):
        raise BadPlace(answer)
    return sheet + (answered(question, answer),)
