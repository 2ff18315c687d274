"""The words of a text of a relation, and whether they make a heading and an equation."""

from rulertrees.errors import BadText

LETTERS = "abcdefghijklmnopqrstuvwxyz"
DIGITS = "0123456789"
SIGNS = "+-*/()=:"
LONGEST_NAME = 8
LONGEST_INTEGER = 9
# The kinds of words; a sign is its own kind.
NAME = "name"
INTEGER = "integer"
NO_WORD = "none"
# A sign - of a factor.
NEGATIVE = "negative"
# How strongly a sign binds what stands before it; an open bracket waits for its end, whatever comes.
STRENGTHS = {"(": 0, "=": 1, "+": 2, "-": 2, "*": 3, "/": 3, "negative": 4}


def is_name(word):
    """Whether a string is a name."""
    return 0 < len(word) <= LONGEST_NAME and all(letter in LETTERS for letter in word)


def end_of_word(text, at):
    """The index behind the word, or the one sign, that begins at an index of a text."""
    for kind in (LETTERS, DIGITS):
        end = at
        while end < len(text) and text[end] in kind:
            end += 1
        if end > at:
            return end
    return at + 1


def kind_of(word):
    """The kind of a row of letters, a row of digits, or one other sign."""
    if word in SIGNS:
        return word
    if is_name(word):
        return NAME
    if word[0] in DIGITS and len(word) <= LONGEST_INTEGER and (word[0] != "0" or len(word) == 1):
        return INTEGER
    return NO_WORD


def words_of(text):
    """The words of a text, each as a tuple of its kind, itself and its index; blanks are left out."""
    found = []
    at = 0
    while at < len(text):
        end = end_of_word(text, at)
        word = text[at:end]
        if word != " ":
            found.append((kind_of(word), word, at))
        at = end
    return found


def heading_length(words, end):
    """How many words the heading has, its last sign too; 0 if there is none. The text ends at the index end."""
    kinds = [kind for kind, _, _ in words]
    if len(kinds) < 2 or kinds[0] != NAME or kinds[1] not in (NAME, ":"):
        return 0
    names = 0
    while names < len(kinds) and kinds[names] == NAME:
        names += 1
    if names == len(kinds):
        raise BadText(end)
    if kinds[names] != ":":
        raise BadText(words[names][2])
    return names + 1


def check_equation(words, end):
    """Raises BadText with the index of the first word with which no equation goes on."""
    depth = 0
    equal = False
    # A factor must come next, or else a sign behind one.
    wanted = True
    for kind, _, at in words:
        if wanted and kind in (NAME, INTEGER):
            wanted = False
        elif wanted and kind == "(":
            depth += 1
        elif not wanted and kind == ")" and depth > 0:
            depth -= 1
        elif not wanted and kind in ("+", "-", "*", "/"):
            wanted = True
        elif not wanted and kind == "=" and depth == 0 and not equal:
            equal = True
            wanted = True
        elif not wanted or kind != "-":
            raise BadText(at)
    if wanted or depth > 0 or not equal:
        raise BadText(end)


def heading_and_equation(text):
    """The names of the heading of a text, None if it has none, and the words of its equation."""
    if not isinstance(text, str):
        raise BadText(-1)
    words = words_of(text)
    length = heading_length(words, len(text))
    equation = words[length:]
    check_equation(equation, len(text))
    if length == 0:
        return (None, equation)
    return (tuple(word for _, word, _ in words[:length - 1]), equation)


def names_of_words(words):
    """The names that stand among words, each once, in the order in which they first stand there."""
    names = {word: True for kind, word, _ in words if kind == NAME}
    return tuple(names)


def in_postfix(words):
    """The words of an equation, each sign behind the two things, or the one thing, that it stands for.

    A sign - of a factor has a kind of its own, and brackets are gone.
    """
    found = []
    waiting = []
    wanted = True
    for kind, word, at in words:
        if kind in (NAME, INTEGER):
            found.append((kind, word, at))
        elif kind == "(":
            waiting.append((kind, word, at))
        elif wanted:
            waiting.append((NEGATIVE, word, at))
        elif kind == ")":
            while waiting[-1][0] != "(":
                found.append(waiting.pop())
            waiting.pop()
        else:
            while waiting and STRENGTHS[waiting[-1][0]] >= STRENGTHS[kind]:
                found.append(waiting.pop())
            waiting.append((kind, word, at))
        wanted = kind not in (NAME, INTEGER, ")")
    return found + waiting[::-1]
