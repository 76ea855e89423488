"""A desk: [17.1] to [17.5]."""

import unittest

from armlegs.base.polys import Poly
from armlegs.base.shapes import shapes_of
from armlegs.deeds.nabla import nabla
from armlegs.deeds.values import star
from armlegs.desk import desk as desks
from armlegs.desk.desk import Desk, decide, is_deed, is_question
from armlegs.errors import InvalidNumber, InvalidOperation, NothingToUndo, Refused, TooMany, UnknownName
from armlegs.fill.fillings import shape_sum
from armlegs.fill.triangles import first_failure
from armlegs.sums.letters import times_letters
from armlegs.sums.sums import Sum
from tests.helpers import HOOK, NO_INTEGERS, NO_TUPLES, ONE, Q, T, ZERO, all_shapes, refuse, sample_sums

LONG = Poly.number(10 ** 59)
WIDE = Poly(tuple((0, j, 1) for j in range(-200, 200)))
SIX = Poly(tuple((k, 0, 1) for k in range(6)))
SEVEN = Poly(tuple((k, 0, 1) for k in range(7)))
NAMES = ("a", "z", "a1", "b0", "abcdefgh", "a2345678", "zz9")
NO_NAMES = (
    None, True, 0, 1, "", "1", "1a", "A", "aB", "a b", " a", "a ", "a_b", "a-b", "abcdefghi", "a\n", "a\t", ("a",),
    ["a"], {"a": 1}, ONE, HOOK, "aA", "9", "a.b", "a/b",
)
DEEDS = tuple(("shape", name, (2, 1)) for name in NAMES) + (
    ("shape", "a", (5,)), ("shape", "a", (1, 1, 1, 1, 1)), ("shape", "a", (1,)), ("put", "a", "m", (1,)),
    ("put", "a", "e", (3, 2)), ("put", "a", "h", (2,)), ("put", "a", "p", (4,)), ("put", "a", "s", (1, 1)),
    ("add", "a", "b"), ("add", "a", "a"), ("take", "a", "b"), ("times", "a", Q), ("times", "a", ZERO),
    ("times", "a", WIDE), ("times", "a", LONG), ("times", "a", Poly.letter(200, -200)), ("turn", "a"), ("trade", "a"),
    ("letters", "a", SIX), ("letters", "a", ZERO), ("letters", "a", Poly.letter(-200, 200)), ("nabla", "a"),
    ("drop", "a"),
)
NO_DEEDS = NO_TUPLES + (
    (), ("shape",), ("shape", "a"), ("shape", "a", ()), ("shape", "a", (6,)), ("shape", "a", (3, 2, 1)),
    ("shape", "a", (1, 2)), ("shape", "a", [2, 1]), ("shape", "a", (True,)), ("shape", "a", None), ("shape", "a", "2,1"),
    ("shape", "a", (2, 1), 1), ["shape", "a", (2, 1)], ("Shape", "a", (2, 1)), ("put", "a", (2, 1)),
    ("put", "a", "x", (2, 1)), ("put", "a", "S", (2, 1)), ("put", "a", None, (2, 1)), ("put", "a", "s", (6,)),
    ("put", "a", "s", ()), ("put", "a", "s", None), ("put", "a", "s", (2, 1), 0), ("put", "a", ["s"], (2, 1)),
    ("put", "a", ONE, (2, 1)), ("add", "a"), ("add", "a", "b", "c"), ("add", "a", HOOK), ("take", "a"), ("times", "a"),
    ("times", "a", 1), ("times", "a", ((0, 0, 1),)), ("times", "a", Q, Q), ("times", "a", HOOK), ("times", "a", None),
    ("times", "a", LONG * LONG), ("times", "a", Poly.letter(200, 0) * Q), ("times", "a", WIDE + Q), ("turn",),
    ("turn", "a", "b"), ("trade", "a", "b"), ("letters", "a"), ("letters", "a", SEVEN), ("letters", "a", 1),
    ("letters", "a", LONG * LONG), ("letters", "a", Poly.letter(0, -200) * Poly.letter(0, -1)), ("nabla", "a", 1),
    ("nabla", "a", "b"), ("drop", "a", "b"), ("drop",), ("lift", "a"), ("", "a"), (None, "a"), (1, "a"), (["drop"], "a"),
    (ONE, "a"), ({"drop": 1}, "a"), "drop a", {"drop": "a"}, (("drop", "a"),), ("equal", "a", "b"), ("whole", "a"),
) + tuple(("drop", name) for name in NO_NAMES) + tuple(("add", "a", name) for name in NO_NAMES)
QUESTIONS = (("equal", "a", "b"), ("equal", "a", "a"), ("whole", "a"), ("which", "abcdefgh"), ("apart", "a", "z9"))
NO_QUESTIONS = NO_TUPLES + (
    (), ("equal",), ("equal", "a"), ("equal", "a", "b", "c"), ("whole",), ("whole", "a", "b"), ("which", "a", "b"),
    ("apart", "a"), ["whole", "a"], ("Whole", "a"), ("", "a"), (None, "a"), (1, "a"), (["whole"], "a"), "whole a",
    {"whole": "a"}, (("whole", "a"),), ("drop", "a"), ("add", "a", "b"), ("shape", "a", (2, 1)), (HOOK, "a"),
) + tuple(("whole", name) for name in NO_NAMES) + tuple(("equal", "a", name) for name in NO_NAMES)
NO_THINGS = (
    True, False, 0, 1, "", "a", (), [], ("a",), (("a", HOOK),), [("a", HOOK)], HOOK, ONE, {"a": None}, {"a": ONE},
    {"a": ()}, {"a": HOOK.pairs}, {"a": Sum(0, ())}, {"a": Sum(6, ())}, {"a": shape_sum((6,))}, {"a": [HOOK]},
    {"name%d" % k: HOOK for k in range(9)},
) + tuple({name: HOOK} for name in NO_NAMES if isinstance(name, (str, int, tuple, type(None))))
THINGS = {
    "z9": Sum.of_kind("e", (2, 1)), "a": HOOK, "b": HOOK + Sum.of_kind("s", (2, 1)), "two": shape_sum((2,)),
    "abcdefgh": shape_sum((3,)), "below": HOOK.times(Q * T - T * T), "none": Sum(3, ()), "five": shape_sum((4, 1)),
}


def rows_of(things):
    return {name: (some.size, [(shape, number.rows) for shape, number in some.pairs]) for name, some in things.items()}


def thing_rows(some):
    return [row for _, number in some.pairs for row in number.rows]


def full_desk():
    """A desk with 8 things, 12 claims and some calls."""
    made = Desk()
    made.edit(tuple(("shape", "n%d" % k, (2, 1)) for k in range(6)))
    made.edit((("put", "n6", "s", (2, 1)), ("put", "n7", "h", (3,))))
    for k in range(12):
        made.pin(("equal", "n%d" % (k % 8), "n6"))
    return made


def state(desk):
    """All that a desk tells."""
    return (
        desk.editions, desk.claims, desk.open_claims, desk.calls, len(desk), str(desk),
        [rows_of(desk.things_at(k)) for k in range(desk.editions + 1)],
        [desk.standing(k + 1, at) for k in range(len(desk.claims)) for at in range(desk.editions + 1)],
    )


class TestValues(unittest.TestCase):
    def test_constants(self):
        self.assertEqual((desks.MOST_NAMES, desks.MOST_DEEDS, desks.MOST_CLAIMS, desks.MOST_EDITIONS,
                          desks.MOST_DESK_ROWS, desks.MAX_DESK_SIZE), (8, 6, 12, 40, 300, 5))

    def test_is_deed(self):
        for deed in DEEDS:
            self.assertIs(is_deed(deed), True, deed)
        for wrong in NO_DEEDS + QUESTIONS:
            self.assertIs(is_deed(wrong), False, wrong)

    def test_is_question(self):
        for question in QUESTIONS:
            self.assertIs(is_question(question), True)
        for wrong in NO_QUESTIONS + DEEDS:
            self.assertIs(is_question(wrong), False, wrong)


class TestDecide(unittest.TestCase):
    def test_equal(self):
        self.assertEqual(decide(THINGS, ("equal", "a", "a")), (True, ("equal",)))
        self.assertEqual(decide({"a": HOOK, "b": HOOK + Sum(3, ())}, ("equal", "a", "b")), (True, ("equal",)))
        self.assertEqual(decide(THINGS, ("equal", "a", "b")), (False, ("unlike", (2, 1))))
        self.assertEqual(decide(THINGS, ("equal", "a", "z9")), (False, ("unlike", (3,))))
        self.assertEqual(decide(THINGS, ("equal", "a", "none")), (False, ("unlike", (3,))))
        self.assertEqual(decide(THINGS, ("equal", "two", "a")), (False, ("sizes", 2, 3)))
        self.assertEqual(decide(THINGS, ("equal", "a", "two")), (False, ("sizes", 3, 2)))
        told = sample_sums(4)
        for one in told:
            for other in told:
                unlike = [s for s in all_shapes(4) if one.number_at("s", s) != other.number_at("s", s)]
                right = (False, ("unlike", unlike[0])) if unlike else (True, ("equal",))
                self.assertEqual(decide({"x": one, "y": other}, ("equal", "x", "y")), right)

    def test_whole(self):
        self.assertEqual(decide(THINGS, ("whole", "a")), (True, ("whole",)))
        self.assertEqual(decide(THINGS, ("whole", "none")), (True, ("whole",)))
        self.assertEqual(decide(THINGS, ("whole", "below")), (False, ("below", (3,), 0, 2)))
        some = Sum(2, (((2,), Q), ((1, 1), ONE - Poly.letter(-2, 5) - Poly.letter(-2, 4))))
        self.assertEqual(decide({"a": some}, ("whole", "a")), (False, ("below", (1, 1), -2, 4)))

    def test_which(self):
        for size in range(1, 6):
            for shape in all_shapes(size):
                told = {"a": shape_sum(shape)}
                self.assertEqual(decide(told, ("which", "a")), (True, ("shape", shape)))
            for some in sample_sums(size)[:3] + [shape_sum((size,)).times(Q)]:
                if some != shape_sum((1,)):
                    failures = tuple(first_failure(shape, some) for shape in shapes_of(size))
                    self.assertNotIn(None, failures)
                    self.assertEqual(decide({"a": some}, ("which", "a")), (False, ("none", failures)))

    def test_apart(self):
        for one in all_shapes(3):
            for other in all_shapes(3):
                told = {"a": shape_sum(one), "b": shape_sum(other)}
                right = (True, ("apart",)) if one != other else (False, ("star", star(told["a"], told["a"])))
                self.assertEqual(decide(told, ("apart", "a", "b")), right)
        self.assertEqual(decide(THINGS, ("apart", "two", "five")), (False, ("sizes", 2, 5)))
        self.assertEqual(decide(THINGS, ("apart", "none", "a")), (True, ("apart",)))
        made = decide(THINGS, ("apart", "a", "b"))
        self.assertEqual(made, (False, ("star", star(THINGS["a"], THINGS["b"]))))

    def test_errors(self):
        for wrong in NO_THINGS + (None, Desk(THINGS)):
            refuse(self, InvalidOperation, None, decide, wrong, ("whole", "a"))
            refuse(self, InvalidOperation, None, decide, wrong, None)
        for wrong in NO_QUESTIONS:
            refuse(self, InvalidOperation, None, decide, THINGS, wrong)
        refuse(self, UnknownName, ("asked", "q"), decide, THINGS, ("equal", "q", "r"))
        refuse(self, UnknownName, ("asked", "r"), decide, THINGS, ("equal", "a", "r"))
        refuse(self, UnknownName, ("asked", "q"), decide, {}, ("whole", "q"))
        refuse(self, UnknownName, ("asked", "q"), decide, THINGS, ("apart", "q", "two"))

    def test_arguments_stay(self):
        told = dict(THINGS)
        for question in (("equal", "a", "b"), ("whole", "below"), ("which", "z9"), ("apart", "a", "b")):
            decide(told, question)
        self.assertEqual(list(told), list(THINGS))
        self.assertEqual(rows_of(told), rows_of(THINGS))


class TestEdits(unittest.TestCase):
    def test_first_things(self):
        made = Desk(THINGS)
        self.assertEqual(rows_of(made.things_at()), rows_of(THINGS))
        self.assertEqual(list(made.things_at()), sorted(THINGS))
        self.assertEqual((made.editions, made.claims, made.open_claims, made.calls, len(made)), (0, (), (), (), 8))
        self.assertEqual(Desk().things_at(), {})
        self.assertEqual(Desk(None), Desk({}))
        for wrong in NO_THINGS:
            refuse(self, InvalidOperation, None, Desk, wrong)
        # Things that are not short can be there from the beginning.
        great = HOOK.times(LONG * LONG)
        self.assertEqual(Desk({"a": great}).things_at()["a"], great)

    def test_each_deed(self):
        some, more = sample_sums(3)[1], sample_sums(3)[2]
        for deed, right in (
            (("shape", "n", (3, 1)), shape_sum((3, 1))), (("shape", "a", (2,)), shape_sum((2,))),
            (("put", "n", "p", (2, 1)), Sum.of_kind("p", (2, 1))), (("put", "b", "m", (1, 1)), Sum.of_kind("m", (1, 1))),
            (("add", "a", "b"), some + more), (("add", "a", "a"), some + some), (("take", "b", "a"), more - some),
            (("take", "a", "a"), Sum(3, ())), (("times", "a", Q - T), some.times(Q - T)),
            (("times", "a", ZERO), Sum(3, ())), (("turn", "a"), some.turned()), (("trade", "b"), more.with_traded()),
            (("letters", "a", ONE - Q), times_letters(some, ONE - Q)), (("letters", "b", SIX), times_letters(more, SIX)),
            (("nabla", "a"), nabla(some)), (("nabla", "b"), nabla(more)),
        ):
            desk = Desk({"a": some, "b": more})
            self.assertEqual(desk.edit((deed,)), 1)
            wanted = {"a": some, "b": more}
            wanted[deed[1]] = right
            self.assertEqual(rows_of(desk.things_at()), rows_of(wanted))
            self.assertEqual(list(desk.things_at()), sorted(wanted))
            self.assertEqual(rows_of(desk.things_at(0)), rows_of({"a": some, "b": more}))
        desk = Desk({"a": some, "b": more})
        self.assertEqual(desk.edit((("drop", "a"),)), 1)
        self.assertEqual(rows_of(desk.things_at()), rows_of({"b": more}))

    def test_several_deeds(self):
        desk = Desk()
        self.assertEqual(desk.edit((
            ("shape", "h", (2, 1)), ("put", "s", "s", (2, 1)), ("add", "h", "s"), ("take", "h", "s"), ("nabla", "h"),
            ("drop", "s"))), 1)
        self.assertEqual(desk.things_at(), {"h": HOOK.times(Q * T)})
        self.assertEqual(desk.edit((("drop", "h"),)), 2)
        self.assertEqual(desk.things_at(), {})
        self.assertEqual(desk.things_at(1), {"h": HOOK.times(Q * T)})

    def test_edit_errors(self):
        desk = Desk(THINGS)
        right = ("turn", "a")
        for wrong in NO_DEEDS:
            refuse(self, InvalidOperation, None, desk.edit, (wrong,))
            refuse(self, InvalidOperation, None, desk.edit, (right, wrong))
            refuse(self, InvalidOperation, None, desk.edit, (("drop", "gone"), wrong))
        for wrong in NO_TUPLES + ((), right, [right], (right,) * 7, {0: right}, "turn a", (right, None)):
            refuse(self, InvalidOperation, None, desk.edit, wrong)
        self.assertEqual(desk.editions, 0)
        self.assertEqual(desk.edit((right,) * 6), 1)

    def refused(self, desk, deeds, index, word):
        before = state(desk)
        refuse(self, Refused, ("reason", ("deed", index, word)), desk.edit, deeds)
        self.assertEqual(state(desk), before)

    def test_refused(self):
        desk = Desk({"a": HOOK, "two": shape_sum((2,))})
        for deed in (("add", "a", "x"), ("add", "x", "a"), ("take", "x", "y"), ("times", "x", Q), ("turn", "x"),
                     ("trade", "x"), ("letters", "x", Q), ("nabla", "x"), ("drop", "x")):
            self.refused(desk, (deed,), 0, "unknown")
            self.refused(desk, (("turn", "a"), ("drop", "two"), deed), 2, "unknown")
        self.refused(desk, (("drop", "a"), ("turn", "a")), 1, "unknown")
        self.refused(desk, (("add", "a", "two"),), 0, "size")
        self.refused(desk, (("turn", "a"), ("take", "two", "a")), 1, "size")
        full = full_desk()
        self.refused(full, (("shape", "n8", (1,)),), 0, "many")
        self.refused(full, (("turn", "n0"), ("put", "n8", "s", (1,))), 1, "many")
        self.assertEqual(full.edit((("shape", "n7", (1,)), ("drop", "n0"), ("shape", "n8", (1,)))), 3)

    def test_short(self):
        one = Sum.of_kind("s", (1,))
        for some, deed, word in (
            (one, ("times", "a", Poly(WIDE.rows[:300])), None), (one, ("times", "a", Poly(WIDE.rows[:301])), "great"),
            (one, ("times", "a", Poly.letter(200, -200)), None), (one, ("times", "a", Poly.letter(-200, 200)), None),
            (one.times(Q), ("times", "a", Poly.letter(200, 0)), "great"),
            (one.times(Poly.letter(0, -1)), ("times", "a", Poly.letter(0, -200)), "great"),
            (one, ("times", "a", Poly.number(10 ** 60 - 1)), None),
            (one.times(Poly.number(10)), ("times", "a", LONG), "great"),
            (one.times(LONG), ("times", "a", Poly.number(-9)), None),
            (one.times(LONG), ("times", "a", Poly.number(-10)), "great"),
            (one.times(LONG * LONG), ("turn", "a"), "great"), (one.times(LONG * LONG), ("nabla", "a"), "great"),
            (one.times(LONG * LONG), ("times", "a", ZERO), None), (one.times(LONG * LONG), ("take", "a", "a"), None),
            (one.times(LONG * LONG), ("drop", "a"), None), (one.times(LONG * LONG), ("shape", "a", (5,)), None),
            (Sum.of_kind("s", (2,)).times(Poly.letter(101, 0)), ("letters", "a", Poly.letter(50, 0)), "great"),
            (Sum.of_kind("s", (2,)).times(Poly.letter(100, 0)), ("letters", "a", Poly.letter(50, 0)), None),
        ):
            desk = Desk({"a": some, "b": HOOK})
            if word is None:
                self.assertEqual(desk.edit((deed,)), 1)
                if deed[0] != "drop":
                    self.assertLessEqual(len(thing_rows(desk.things_at()["a"])), 300)
            else:
                self.refused(desk, (deed,), 0, word)
        # All numbers count together.
        half = Sum(2, (((2,), Poly(WIDE.rows[:150])), ((1, 1), Poly(WIDE.rows[:150]))))
        more = Sum(2, (((2,), Poly(WIDE.rows[:150])), ((1, 1), Poly(WIDE.rows[:151]))))
        self.assertEqual(Desk({"a": half}).edit((("trade", "a"),)), 1)
        self.refused(Desk({"a": more}), (("trade", "a"),), 0, "great")

    def test_order_of_words(self):
        great = HOOK.times(LONG * LONG)
        desk = Desk({"a": great, "two": shape_sum((2,))})
        self.refused(desk, (("add", "a", "x"), ("add", "a", "two")), 0, "unknown")
        self.refused(desk, (("add", "a", "two"), ("turn", "a")), 0, "size")
        self.refused(desk, (("turn", "two"), ("turn", "a"), ("drop", "x")), 1, "great")

    def test_most_editions(self):
        desk = Desk()
        desk.edit((("shape", "a", (2,)),))
        for k in range(2, 41):
            self.assertEqual(desk.edit((("turn", "a"),)), k)
        before = state(desk)
        refuse(self, TooMany, ("limit", 40), desk.edit, (("turn", "a"),))
        refuse(self, TooMany, ("limit", 40), desk.edit, (("turn", "x"),))
        refuse(self, InvalidOperation, None, desk.edit, (("turn",),))
        self.assertEqual(state(desk), before)
        self.assertEqual(desk.pin(("whole", "a")), 1)
        self.assertEqual(desk.undo(calls=2), 39)
        self.assertEqual(desk.edit((("nabla", "a"),)), 40)


class TestClaims(unittest.TestCase):
    def test_pin(self):
        desk = Desk({"a": HOOK})
        self.assertEqual(desk.pin(("which", "a")), 1)
        desk.edit((("put", "b", "s", (2, 1)), ("add", "a", "b")))
        self.assertEqual(desk.pin(("which", "a")), 2)
        self.assertEqual(desk.pin(("whole", "b")), 3)
        self.assertEqual(desk.claims, ((("which", "a"), True, 0), (("which", "a"), False, 1), (("whole", "b"), True, 1)))
        self.assertEqual(desk.open_claims, (1,))
        self.assertEqual(desk.standing(1, 0), ("stands", (True, ("shape", (2, 1)))))
        self.assertEqual(desk.standing(1)[0], "turned")
        self.assertEqual(desk.standing(1), ("turned", decide(desk.things_at(), ("which", "a"))))
        self.assertEqual(desk.standing(2, 0), ("turned", (True, ("shape", (2, 1)))))
        self.assertEqual(desk.standing(3, 0), ("lost", None))
        desk.edit((("drop", "b"),))
        self.assertEqual(desk.open_claims, (1, 3))
        self.assertEqual(desk.standing(3), ("lost", None))
        self.assertEqual(desk.standing(3, 1), ("stands", (True, ("whole",))))

    def test_another_paper(self):
        # The verdict counts, not the paper.
        desk = Desk({"a": HOOK, "b": Sum(3, ())})
        desk.pin(("equal", "a", "b"))
        desk.edit((("shape", "b", (2,)),))
        self.assertEqual(desk.standing(1), ("stands", (False, ("sizes", 3, 2))))
        self.assertEqual(desk.open_claims, ())

    def test_pin_errors(self):
        desk = Desk({"a": HOOK})
        for wrong in NO_QUESTIONS:
            refuse(self, InvalidOperation, None, desk.pin, wrong)
        refuse(self, UnknownName, ("asked", "x"), desk.pin, ("equal", "x", "y"))
        refuse(self, UnknownName, ("asked", "y"), desk.pin, ("equal", "a", "y"))
        for k in range(12):
            self.assertEqual(desk.pin(("whole", "a")), k + 1)
        before = state(desk)
        refuse(self, TooMany, ("limit", 12), desk.pin, ("whole", "a"))
        refuse(self, UnknownName, ("asked", "x"), desk.pin, ("whole", "x"))
        refuse(self, InvalidOperation, None, desk.pin, ("whole",))
        self.assertEqual(state(desk), before)
        self.assertEqual(desk.undo(), 11)
        self.assertEqual(desk.pin(("which", "a")), 12)

    def test_standing_errors(self):
        desk = Desk({"a": HOOK})
        refuse(self, InvalidNumber, ("given", 1), desk.standing, 1)
        desk.pin(("whole", "a"))
        desk.edit((("turn", "a"),))
        for wrong in NO_INTEGERS + (0, 2, -1):
            refuse(self, InvalidNumber, ("given", wrong), desk.standing, wrong)
            refuse(self, InvalidNumber, ("given", wrong), desk.standing, wrong, 9)
            if wrong is not None and wrong != 0:
                refuse(self, InvalidNumber, ("given", wrong), desk.standing, 1, wrong)
                refuse(self, InvalidNumber, ("given", wrong), desk.things_at, wrong)
        refuse(self, InvalidNumber, ("given", False), desk.standing, 1, False)
        refuse(self, InvalidNumber, ("given", False), desk.things_at, False)
        self.assertEqual(desk.standing(1, None), desk.standing(1, 1))
        self.assertEqual(desk.things_at(None), desk.things_at(1))


class TestUndo(unittest.TestCase):
    def test_no_trace(self):
        desk = Desk({"a": HOOK})
        seen = [state(desk)]
        for call in (
            lambda: desk.edit((("shape", "b", (3,)),)), lambda: desk.pin(("equal", "a", "b")),
            lambda: desk.edit((("nabla", "b"), ("drop", "a"))), lambda: desk.pin(("whole", "b")),
            lambda: desk.edit((("times", "b", -ONE),)),
        ):
            call()
            seen.append(state(desk))
        self.assertEqual(desk.calls, (
            ("edit", (("shape", "b", (3,)),)), ("pin", ("equal", "a", "b")), ("edit", (("nabla", "b"), ("drop", "a"))),
            ("pin", ("whole", "b")), ("edit", (("times", "b", -ONE),))))
        for many in range(1, 6):
            other = desk.twin()
            self.assertEqual(other.undo(calls=many), 5 - many)
            self.assertEqual(state(other), seen[5 - many])
            for word, told in desk.calls[5 - many:]:
                other.edit(told) if word == "edit" else other.pin(told)
            self.assertEqual(state(other), seen[5])
            self.assertEqual(other, desk)
        self.assertEqual(desk.undo(), 4)
        self.assertEqual(state(desk), seen[4])

    def test_errors(self):
        desk = full_desk()
        before = state(desk)
        for wrong in NO_INTEGERS + (0, -1):
            refuse(self, InvalidNumber, ("given", wrong), desk.undo, calls=wrong)
        for many in (15, 16, 10 ** 59):
            refuse(self, NothingToUndo, ("wanted", many), desk.undo, calls=many)
        self.assertRaises(TypeError, desk.undo, 1)
        self.assertEqual(state(desk), before)
        self.assertEqual(desk.undo(calls=14), 0)
        refuse(self, NothingToUndo, ("wanted", 1), desk.undo)
        self.assertEqual(desk, Desk())


class TestDesks(unittest.TestCase):
    def test_shared_state(self):
        told = dict(THINGS)
        desk = Desk(told)
        before = state(desk)
        told["a"] = Sum(1, ())
        del told["b"]
        made = desk.things_at()
        made["a"] = None
        made.clear()
        desk.things_at(0)["new"] = HOOK
        self.assertEqual(state(desk), before)
        other = desk.twin()
        self.assertEqual(other, desk)
        other.edit((("drop", "a"),))
        other.pin(("whole", "b"))
        self.assertEqual(state(desk), before)
        desk.pin(("whole", "a"))
        self.assertEqual(len(other.claims), 1)
        self.assertEqual(other.claims[0][0], ("whole", "b"))
        third = other.twin()
        third.undo(calls=2)
        self.assertEqual((other.editions, third.editions), (1, 0))
        self.assertEqual(state(third), before)

    def test_equal(self):
        one, other = Desk({"a": HOOK}), Desk({"a": HOOK})
        self.assertTrue(one == other and not one != other)
        one.edit((("turn", "a"),))
        self.assertTrue(one != other and not one == other)
        other.edit((("turn", "a"),))
        self.assertEqual(one, other)
        one.pin(("whole", "a"))
        other.pin(("which", "a"))
        self.assertNotEqual(one, other)
        self.assertNotEqual(Desk({"a": HOOK}), Desk({"b": HOOK}))
        built = Desk()
        built.edit((("shape", "a", (2, 1)),))
        self.assertNotEqual(built, Desk({"a": HOOK}))
        for value in (None, True, 0, "desk", (), [], {}, {"a": HOOK}, HOOK, ONE):
            self.assertTrue(one != value and not one == value)

    def test_contains_and_len(self):
        desk = Desk({"a": HOOK, "b": HOOK})
        self.assertEqual([name in desk for name in ("a", "b", "c", "")], [True, True, False, False])
        for value in NO_NAMES + ((), [], {}, HOOK, ONE, True, None, ["a"], {"a": 1}):
            self.assertIs(value in desk, False)
        self.assertEqual((len(desk), len(Desk())), (2, 0))
        desk.edit((("drop", "a"),))
        self.assertNotIn("a", desk)
        self.assertEqual(len(desk), 1)
        with self.assertRaises(TypeError):
            iter(desk)

    def test_str(self):
        self.assertEqual(str(Desk()), "desk of 0 things, edition 0, 0 claims")
        self.assertEqual(str(full_desk()), "desk of 8 things, edition 2, 12 claims")

    def test_properties(self):
        desk = full_desk()
        for name in ("editions", "claims", "open_claims", "calls"):
            self.assertIsInstance(getattr(Desk, name), property)
            self.assertEqual(getattr(desk, name), getattr(desk, name))
        self.assertEqual(desk.editions, 2)


if __name__ == "__main__":
    unittest.main()
