"""A desk: symmetric sums under names, deeds that change them, questions about them, and claims that are kept."""

from armlegs.base.checks import is_integer, is_integer_from, is_shape_within
from armlegs.base.polys import MOST_POWER, MOST_ROWS, Poly
from armlegs.base.rows import are_rows
from armlegs.deeds.values import star
from armlegs.desk.works import has_few_rows, names_asked, with_thing, without_thing, worked
from armlegs.errors import InvalidNumber, InvalidOperation, NothingToUndo, Refused, TooMany, UnknownName
from armlegs.fill.triangles import all_failures, which_shape
from armlegs.sums.sums import KINDS, Sum

MOST_NAMES = 8
MOST_DEEDS = 6
MOST_CLAIMS = 12
MOST_EDITIONS = 40
MOST_DESK_ROWS = 300
MAX_DESK_SIZE = 5
MOST_PUT_ROWS = 6
MOST_SIGNS = 8
FIRST_SIGNS = "abcdefghijklmnopqrstuvwxyz"
SIGNS = "abcdefghijklmnopqrstuvwxyz0123456789"
# The words of deeds and questions that have just so many names behind them.
NAMED_DEEDS = {"add": 2, "take": 2, "turn": 1, "trade": 1, "nabla": 1, "drop": 1}
NAMED_QUESTIONS = {"equal": 2, "whole": 1, "which": 1, "apart": 2}


def is_name(value):
    """Whether the value is one to eight lowercase letters and digits, the first one a letter."""
    if not isinstance(value, str) or not 1 <= len(value) <= MOST_SIGNS:
        return False
    return value[0] in FIRST_SIGNS and all([sign in SIGNS for sign in value])


def are_things(value):
    """Whether the value is a dict from at most 8 names to sums of sizes from 1 to 5."""
    if not isinstance(value, dict) or len(value) > MOST_NAMES:
        return False
    return all([is_name(name) and is_thing(some) for name, some in value.items()])


def is_thing(value):
    """Whether the value is a sum of a size from 1 to 5."""
    return isinstance(value, Sum) and 1 <= value.size <= MAX_DESK_SIZE


def is_desk_shape(value):
    """Whether the value is a shape of a size from 1 to 5."""
    return is_shape_within(value, 1, MAX_DESK_SIZE)


def is_desk_poly(value, most_rows):
    """Whether the value is a polynomial whose rows, at most so many, can be passed."""
    return isinstance(value, Poly) and are_rows(value.rows, most_rows, MOST_POWER)


def begins_right(value):
    """Whether the value is a tuple of a word and a name, and perhaps of more."""
    return isinstance(value, tuple) and len(value) >= 2 and isinstance(value[0], str) and is_name(value[1])


def are_names(values, many):
    """Whether a tuple has just so many values, all of them names."""
    return len(values) == many and all([is_name(name) for name in values])


def is_deed(value):
    """Whether the value is a deed."""
    if not begins_right(value):
        return False
    word = value[0]
    if word in NAMED_DEEDS:
        return are_names(value[1:], NAMED_DEEDS[word])
    if word == "put":
        return len(value) == 4 and value[2] in KINDS and is_desk_shape(value[3])
    if len(value) != 3:
        return False
    if word == "shape":
        return is_desk_shape(value[2])
    if word == "times":
        return is_desk_poly(value[2], MOST_ROWS)
    return word == "letters" and is_desk_poly(value[2], MOST_PUT_ROWS)


def is_question(value):
    """Whether the value is a question."""
    if not begins_right(value) or value[0] not in NAMED_QUESTIONS:
        return False
    return are_names(value[1:], NAMED_QUESTIONS[value[0]])


def check_question(question):
    """Refuse what is no question."""
    if not is_question(question):
        raise InvalidOperation("this is no question")


def check_names(things, question):
    """Refuse a question with a name that is not there."""
    for name in question[1:]:
        if name not in things:
            raise UnknownName(name)


def decide(things, question):
    """The pair of the verdict and the paper for a question about things."""
    if not are_things(things):
        raise InvalidOperation("these are no things of a desk")
    check_question(question)
    check_names(things, question)
    return decided(things, question)


def decided(things, question):
    """As of `decide`, for a question all of whose names are there."""
    one = things[question[1]]
    if question[0] == "whole":
        return decided_whole(one)
    if question[0] == "which":
        return decided_which(one)
    other = things[question[2]]
    if one.size != other.size:
        return (False, ("sizes", one.size, other.size))
    if question[0] == "equal":
        return decided_equal(one, other)
    paired = star(one, other)
    if len(paired) == 0:
        return (True, ("apart",))
    return (False, ("star", paired))


def decided_equal(one, other):
    """Verdict and paper for whether two sums of one size are equal."""
    if one == other:
        return (True, ("equal",))
    return (False, ("unlike", (one - other).pairs[0][0]))


def decided_whole(one):
    """Verdict and paper for whether no integer of a sum is below 0."""
    for shape, number in one.pairs:
        for i, j, c in number.rows:
            if c < 0:
                return (False, ("below", shape, i, j))
    return (True, ("whole",))


def decided_which(one):
    """Verdict and paper for whether a sum is that of a shape."""
    shape = which_shape(one)
    if shape is not None:
        return (True, ("shape", shape))
    return (False, ("none", all_failures(one)))


def refusal(things, deed):
    """The word by which the deed is refused ahead of its being done, or None."""
    asked = names_asked(deed)
    if any([name not in things for name in asked]):
        return "unknown"
    if deed[1] not in things and len(things) == MOST_NAMES:
        return "many"
    if len(asked) == 2 and things[asked[0]].size != things[asked[1]].size:
        return "size"
    return None


def done(things, deed, index):
    """The things behind the deed, which has this index among those of its edit."""
    word = refusal(things, deed)
    if word is not None:
        raise Refused(("deed", index, word))
    if deed[0] == "drop":
        return without_thing(things, deed[1])
    some = worked(things, deed)
    if not has_few_rows(some, MOST_DESK_ROWS):
        raise Refused(("deed", index, "great"))
    return with_thing(things, deed[1], some)


class Desk:
    """Things under names; each edit makes a new edition of them, and claims about them are kept."""

    def __init__(self, things=None):
        if things is not None and not are_things(things):
            raise InvalidOperation("these are no things of a desk")
        first = {} if things is None else things
        self._editions = [{name: first[name] for name in sorted(first)}]
        self._claims = []
        self._calls = []

    def edit(self, deeds):
        """Do the deeds, one after the other, as one edit; the number of the new edition."""
        if not isinstance(deeds, tuple) or not 1 <= len(deeds) <= MOST_DEEDS or not all([is_deed(d) for d in deeds]):
            raise InvalidOperation("this is no tuple of one to six deeds")
        if self.editions == MOST_EDITIONS:
            raise TooMany(MOST_EDITIONS)
        things = self._editions[-1]
        for index, deed in enumerate(deeds):
            things = done(things, deed, index)
        self._editions.append(things)
        self._calls.append(("edit", deeds))
        return self.editions

    def pin(self, question):
        """Decide the question now and keep it as a claim; how many claims there are then."""
        check_question(question)
        things = self._editions[-1]
        check_names(things, question)
        if len(self._claims) == MOST_CLAIMS:
            raise TooMany(MOST_CLAIMS)
        self._claims.append((question, decided(things, question)[0], self.editions))
        self._calls.append(("pin", question))
        return len(self._claims)

    def undo(self, *, calls=1):
        """Take back so many of the last calls that stand; how many stand then."""
        if not is_integer(calls) or calls < 1:
            raise InvalidNumber(calls)
        if calls > len(self._calls):
            raise NothingToUndo(calls)
        for _ in range(calls):
            if self._calls.pop()[0] == "edit":
                self._editions.pop()
            else:
                self._claims.pop()
        return len(self._calls)

    def things_at(self, edition=None):
        """A new dict of the things of an edition, of the newest one for None."""
        things = self._editions[self.told_edition(edition)]
        return {name: things[name] for name in things}

    def told_edition(self, edition):
        """The number of an edition, of the newest one for None."""
        if edition is None:
            return self.editions
        if not is_integer_from(edition, 0, self.editions):
            raise InvalidNumber(edition)
        return edition

    def standing(self, number, edition=None):
        """How the claim with a number stands on the things of an edition, and what is decided on them."""
        if not is_integer_from(number, 1, len(self._claims)):
            raise InvalidNumber(number)
        things = self._editions[self.told_edition(edition)]
        question, verdict, _ = self._claims[number - 1]
        if any([name not in things for name in question[1:]]):
            return ("lost", None)
        told = decided(things, question)
        return ("stands" if told[0] == verdict else "turned", told)

    @property
    def editions(self):
        """The number of the newest edition."""
        return len(self._editions) - 1

    @property
    def claims(self):
        """The tuple of the triples (question, verdict, edition at which it was pinned)."""
        return tuple(self._claims)

    @property
    def open_claims(self):
        """The ascending tuple of the numbers of the claims that do not stand now."""
        many = len(self._claims)
        return tuple([number for number in range(1, many + 1) if self.standing(number)[0] != "stands"])

    @property
    def calls(self):
        """The tuple of the calls of `edit` and `pin` that stand."""
        return tuple(self._calls)

    def twin(self):
        """An equal desk that changes by itself."""
        made = Desk(self._editions[0])
        made._editions = list(self._editions)
        made._claims = list(self._claims)
        made._calls = list(self._calls)
        return made

    def __contains__(self, name):
        return isinstance(name, str) and name in self._editions[-1]

    def __len__(self):
        return len(self._editions[-1])

    def __eq__(self, other):
        if not isinstance(other, Desk):
            return False
        return self._editions[0] == other._editions[0] and self._calls == other._calls

    def __str__(self):
        return f"desk of {len(self)} things, edition {self.editions}, {len(self._claims)} claims"
