"""Formulas: sets of places of floors, told by a text."""

from overfloors.errors import BadText, NoFloor
from overfloors.tiles import is_word

SIGNS = ("|", "&", "-", "^")
BRACKETS = ("(", ")")
DEEPEST = 20


def words_of(text):
    """The words between single spaces; a text that is empty, or no text, has none."""
    if not isinstance(text, str) or text == "":
        return []
    return text.split(" ")


def is_operand(word):
    """True for a name, or a name and a letter with a dot between them."""
    parts = word.split(".")
    return len(parts) <= 2 and all([is_word(part) for part in parts])


def check_words(words):
    """Raises an error unless the words make a formula."""
    wants_side = True
    depth = 0
    for index, word in enumerate(words):
        if wants_side and word == "(" and depth < DEEPEST:
            depth = depth + 1
        elif wants_side and is_operand(word):
            wants_side = False
        elif not wants_side and word in SIGNS:
            wants_side = True
        elif not wants_side and word == ")" and depth > 0:
            depth = depth - 1
        else:
            raise BadText(index)
    if wants_side or depth > 0:
        raise BadText(len(words))


def looked_up(word, floors):
    """The set that a name, perhaps with a letter, tells."""
    name, dot, letter = word.partition(".")
    return floors[name].places(letter) if dot else floors[name].places()


def put_together(one, sign, other):
    """What an operator makes of two sets."""
    if sign == "|":
        return one | other
    if sign == "&":
        return one & other
    return one - other if sign == "-" else one ^ other


class Formula:
    """A text of names of floors, operators and brackets."""

    def __init__(self, text):
        words = words_of(text)
        check_words(words)
        self.text = text
        self._words = tuple(words)
        self._names = tuple([word.split(".")[0] for word in words if word not in SIGNS and word not in BRACKETS])

    def names(self):
        """The names of floors, each once, ascending."""
        return tuple(sorted(set([str(name) for name in self._names])))

    def places(self, floors):
        """The set that the formula tells, for a dict from names to floors."""
        for name in self._names:
            if name not in floors:
                raise NoFloor(name)
        waiting = []
        found, sign = None, None
        for word in self._words:
            if word == "(":
                waiting.append((found, sign))
                found, sign = None, None
            elif word in SIGNS:
                sign = word
            else:
                side = found if word == ")" else looked_up(word, floors)
                if word == ")":
                    found, sign = waiting.pop()
                found = side if sign is None else put_together(found, sign, side)
        return found

    def __eq__(self, other):
        return isinstance(other, Formula) and self.text == other.text
