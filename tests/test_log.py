"""The log of a desk: [17.6]."""

import unittest

from armlegs.base.polys import Poly
from armlegs.desk.desk import Desk
from armlegs.desk.log import log_text, read_log
from armlegs.errors import InvalidOperation, ParseError
from tests.helpers import HOOK, NO_TUPLES, ONE, Q, T, ZERO, refuse
from tests.test_desk import full_desk, state

GREAT = Poly(((-200, 200, 10 ** 60 - 1), (0, 0, -1), (200, -200, 1 - 10 ** 60)))
SHORT = "desk\nedit shape h 2,1 / put s s 2,1\npin which h\nedit trade h\nedit add h s\n"


def busy_desk():
    desk = Desk()
    desk.edit((("shape", "a", (5,)), ("put", "abcdefgh", "h", (1, 1, 1)), ("put", "z9", "p", (2, 1))))
    desk.edit((("times", "a", Q - T), ("add", "z9", "abcdefgh"), ("take", "a", "a"), ("turn", "z9"), ("trade", "z9")))
    desk.pin(("equal", "a", "z9"))
    desk.edit((("letters", "z9", ONE - Poly.letter(-2, 3)), ("nabla", "abcdefgh"), ("times", "z9", ZERO)))
    desk.pin(("apart", "z9", "abcdefgh"))
    desk.edit((("times", "z9", GREAT), ("letters", "a", ZERO), ("drop", "z9")))
    desk.pin(("whole", "a"))
    desk.pin(("which", "abcdefgh"))
    return desk


class TestLog(unittest.TestCase):
    def test_known(self):
        desk = Desk()
        self.assertEqual(log_text(desk), "desk\n")
        desk.edit((("shape", "h", (2, 1)), ("put", "s", "s", (2, 1))))
        desk.pin(("which", "h"))
        desk.edit((("trade", "h"),))
        desk.edit((("add", "h", "s"),))
        self.assertEqual(log_text(desk), SHORT)
        self.assertEqual(read_log(SHORT), desk)
        desk.undo(calls=3)
        desk.edit((("times", "h", Q - ONE - ONE), ("letters", "s", ZERO)))
        self.assertEqual(
            log_text(desk), "desk\nedit shape h 2,1 / put s s 2,1\nedit times h 0,0,-2;1,0,1 / letters s -\n")

    def test_there_and_back(self):
        for desk in (Desk(), busy_desk(), full_desk()):
            text = log_text(desk)
            made = read_log(text)
            self.assertEqual(made, desk)
            self.assertEqual(state(made), state(desk))
            self.assertEqual(log_text(made), text)
            self.assertEqual(text, "".join(line + "\n" for line in text.split("\n")[:-1]))

    def test_most(self):
        desk = Desk()
        desk.edit((("shape", "a", (1,)),) * 6)
        for _ in range(39):
            desk.edit((("turn", "a"),) * 6)
        for _ in range(12):
            desk.pin(("whole", "a"))
        text = log_text(desk)
        self.assertEqual(read_log(text), desk)
        refuse(self, ParseError, ("spot", 53), read_log, text + "edit turn a\n")
        refuse(self, ParseError, ("spot", 53), read_log, text + "pin whole a\n")

    def test_not_logged(self):
        for wrong in NO_TUPLES + (Desk({"a": HOOK}), "desk\n", {"a": HOOK}, Desk, SHORT):
            refuse(self, InvalidOperation, None, log_text, wrong)
        begun = Desk({"a": HOOK})
        begun.edit((("drop", "a"),))
        refuse(self, InvalidOperation, None, log_text, begun)

    def test_no_strings(self):
        for wrong in NO_TUPLES:
            if not isinstance(wrong, str):
                refuse(self, ParseError, ("spot", None), read_log, wrong)
        refuse(self, ParseError, ("spot", None), read_log, "desk\n" + "x" * 19996)
        refuse(self, ParseError, ("spot", 1), read_log, "desk\n" + "x" * 19995)
        long = "desk\nedit shape a 1\n"
        many = (20000 - len(long)) // len("edit turn a\n")
        refuse(self, ParseError, ("spot", 41), read_log, long + "edit turn a\n" * many)

    def test_wrong_lines(self):
        begun = "desk\nedit shape h 2,1 / put s s 2,1\npin which h\n"
        self.assertEqual(len(read_log(begun).calls), 2)
        for text in ("", "\n", "desk", "Desk\n", "desk \n", " desk\n", "edit shape h 1\n", "desk\t\n", "0", "desks\n"):
            refuse(self, ParseError, ("spot", 0), read_log, text)
        for line in (
            "", " ", "edit", "edit ", "pin", "pin ", "edit turn h ", "edit  turn h", " edit turn h", "edit turn  h",
            "edit turn", "edit turn h /", "edit turn h / ", "edit turn h/turn h", "edit turn h /turn h",
            "edit turn h  / turn h", "edit / turn h", "turn h", "edit lift h", "edit turn h s", "Edit turn h",
            "edit shape h", "edit shape h 6", "edit shape h 02,1", "edit shape h 2,1,", "edit shape h 1,2",
            "edit shape h +2", "edit shape h 2, 1", "edit shape h -", "edit shape h -1", "edit shape h ()", "edit shape h x",
            "edit put h s", "edit put h x 2,1", "edit put h 2,1 s", "edit put h s s 2", "edit times h", "edit times h q",
            "edit times h 0,0,0", "edit times h 0,0", "edit times h 0,0,1,1", "edit times h 0,0,01", "edit times h 0,0,+1",
            "edit times h 0,0,1;0,0,1", "edit times h 1,0,1;0,0,1", "edit times h 0,0,1;", "edit times h ;",
            "edit times h -0,0,1", "edit times h 0,0,--1", "edit times h 201,0,1", "edit times h 0,-201,1",
            "edit times h 0,0,1" + "0" * 60, "edit times h -;-", "edit letters h " + ";".join("%d,0,1" % k for k in range(7)),
            "edit drop h / drop h", "edit turn x", "edit add h x", "edit " + " / ".join(["turn h"] * 7), "pin which x",
            "pin which", "pin which h ", "pin  which h", "pin which h s", "pin equal h", "pin turn h", "pin which h / whole h",
            "edit which h", "desk", "undo", "edit turn h\r", "edit shape n 1 / add n h", "edit times h 0;0;1",
        ):
            refuse(self, ParseError, ("spot", 3), read_log, begun + line + "\n")
            refuse(self, ParseError, ("spot", 3), read_log, begun + line + "\nedit turn h\n")
            if line:
                refuse(self, ParseError, ("spot", 3), read_log, begun + line)
        refuse(self, ParseError, ("spot", 3), read_log, begun + "edit turn h")
        refuse(self, ParseError, ("spot", 4), read_log, begun + "edit turn h\nedit turn h")
        refuse(self, ParseError, ("spot", 2), read_log, begun[:-1])
        self.assertEqual(read_log(begun + "edit turn h\n").editions, 2)

    def test_independent(self):
        one, other = read_log(SHORT), read_log(SHORT)
        one.undo(calls=2)
        self.assertEqual(log_text(other), SHORT)
        self.assertEqual(other.editions, 3)


if __name__ == "__main__":
    unittest.main()
