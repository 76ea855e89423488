"""A shell: lines that tell what is to be done with a desk, and their answers."""

from armlegs.desk.desk import Desk, decide
from armlegs.errors import ArmError, InvalidNumber, InvalidOperation, NothingToUndo, Refused, TooMany, UnknownName
from armlegs.fill.triangles import which_shape
from armlegs.text.lines import DEED_PIECES, told_line
from armlegs.text.terms import poly_text, shape_text
from armlegs.text.texts import pair_text

MAX_LINE = 2000
MOST_LINES = 40


def is_line(value):
    """Whether the value is a string of at most 2000 printable ASCII characters."""
    if not isinstance(value, str) or len(value) > MAX_LINE:
        return False
    return all([" " <= sign <= "~" for sign in value])


class Shell:
    """A desk to which lines are said; it keeps the desk itself, and how many lines were said."""

    def __init__(self, desk):
        if not isinstance(desk, Desk):
            raise InvalidOperation("this is no desk")
        self._desk = desk
        self._said = 0

    @property
    def said(self):
        """How many lines were said, also empty, wrong and refused ones."""
        return self._said

    def __str__(self):
        return f"shell, {self._said} lines said"

    def say(self, line):
        """Do what the line tells; its answer."""
        if not is_line(line):
            raise InvalidOperation("this is no line of at most 2000 printable characters")
        self._said = self._said + 1
        return self.answer(line)

    def tell(self, lines):
        """Do what the lines tell, one after the other; the tuple of their answers."""
        if not isinstance(lines, tuple) or len(lines) > MOST_LINES or not all([is_line(line) for line in lines]):
            raise InvalidOperation("this is no tuple of at most 40 lines")
        return tuple([self.say(line) for line in lines])

    def answer(self, line):
        """The answer to a line, also to one that is not done."""
        told, wrong = told_line(line)
        if told is None:
            return f"wrong at {wrong}"
        if told == ():
            return ""
        try:
            return self.done(told)
        except Refused as refused:
            return f"refused {refused.reason[-1]}"
        except UnknownName as unknown:
            return f"unknown {unknown.asked}"
        except TooMany as many:
            return f"too many {many.limit}"
        except NothingToUndo:
            return "nothing to undo"
        except (ArmError, InvalidNumber):
            return "invalid"

    def done(self, told):
        """Do what the words and values of a line tell; its answer."""
        word = told[0]
        if word in DEED_PIECES:
            return f"edition {self._desk.edit((told,))}"
        if word == "pin":
            return f"claim {self._desk.pin(told[1:])}"
        if word == "undo":
            return f"calls {self._desk.undo(calls=told[1])}"
        if word == "stand":
            return self._desk.standing(told[1])[0]
        if word == "list":
            return " ".join(list(self._desk.things_at()))
        if word == "open":
            return " ".join([str(number) for number in self._desk.open_claims])
        return self.told_of_thing(word, told)

    def told_of_thing(self, word, told):
        """The answer to a line that asks for a thing."""
        if word == "which":
            shape = which_shape(self.thing(told[1]))
            return "none" if shape is None else shape_text(shape)
        if word == "show":
            lines = [pair_text(pair) for pair in self.thing(told[1]).pairs]
            return " / ".join(lines) if lines else "0"
        if word == "number":
            return poly_text(self.thing(told[1]).number_at(told[2], told[3]))
        return "yes" if decide(self._desk.things_at(), told)[0] else "no"

    def thing(self, name):
        """The sum that has a name now."""
        things = self._desk.things_at()
        if name not in things:
            raise UnknownName(name)
        return things[name]
