"""A shell: [18.4] to [18.6]."""

import unittest

from armlegs.base.polys import Poly
from armlegs.desk.desk import Desk
from armlegs.errors import InvalidOperation
from armlegs.fill.fillings import shape_sum
from armlegs.sums.sums import KINDS, Sum
from armlegs.text import shell as shells
from armlegs.text.shell import Shell
from armlegs.text.texts import read_poly, read_sum, write_poly
from tests.helpers import HOOK, NO_TUPLES, ONE, Q, T, all_shapes, refuse
from tests.test_desk import NO_NAMES, full_desk, state

NO_LINES = tuple(wrong for wrong in NO_TUPLES if not isinstance(wrong, str)) + (
    "a\tb", "a\n", "\n", "\t", "x" * 2001, " " * 2001, ("list",), ["list"], 0, HOOK, Desk(),
)


def said(*lines, things=None):
    """The answers of a new shell to some lines."""
    return Shell(Desk(things)).tell(lines)


class TestLines(unittest.TestCase):
    def test_constants(self):
        self.assertEqual((shells.MAX_LINE, shells.MOST_LINES), (2000, 40))

    def test_deeds(self):
        desk = Desk()
        shell = Shell(desk)
        lines = ("shape h 2,1", "put s s 2,1", "add h s", "take h s", "times h 1-q", "turn h", "trade h",
                 "letters s 1+q", "nabla h", "drop s")
        for k, line in enumerate(lines):
            self.assertEqual(shell.say(line), "edition %d" % (k + 1))
        self.assertEqual(desk.calls, tuple(("edit", (deed,)) for deed in (
            ("shape", "h", (2, 1)), ("put", "s", "s", (2, 1)), ("add", "h", "s"), ("take", "h", "s"),
            ("times", "h", ONE - Q), ("turn", "h"), ("trade", "h"), ("letters", "s", ONE + Q), ("nabla", "h"),
            ("drop", "s"))))
        for kind in KINDS:
            shell.say("put k " + kind + " 2,1")
            self.assertEqual(desk.things_at()["k"], Sum.of_kind(kind, (2, 1)))
        for size in range(1, 6):
            for shape in all_shapes(size):
                desk.undo()
                shell.say("shape k " + ",".join(str(part) for part in shape))
                self.assertEqual(desk.things_at()["k"], shape_sum(shape))

    def test_questions(self):
        things = {"h": HOOK, "g": HOOK, "three": shape_sum((3,)), "two": shape_sum((2,)), "low": HOOK.times(-Q)}
        for line, answer in (
            ("equal h g", "yes"), ("equal h three", "no"), ("equal h two", "no"), ("whole h", "yes"), ("whole low", "no"),
            ("apart h three", "yes"), ("apart h g", "no"), ("apart h two", "no"), ("which h", "2,1"), ("which two", "2"),
            ("which low", "none"),
        ):
            desk = Desk(things)
            before = state(desk)
            self.assertEqual(Shell(desk).say(line), answer)
            self.assertEqual(state(desk), before)
            self.assertEqual(Shell(desk).say("pin " + line), "claim 1")
            self.assertEqual(desk.claims, ((tuple(line.split()), answer not in ("no", "none"), 0),))
            self.assertEqual(Shell(desk).say("stand 1"), "stands")

    def test_claims(self):
        desk = Desk()
        shell = Shell(desk)
        answers = shell.tell((
            "open", "list", "shape h 2,1", "pin which h", "pin whole h", "stand 1", "times h -1", "open", "stand 1",
            "stand 2", "pin equal h h", "drop h", "stand 3", "open", "undo 1", "open", "undo 3", "list", "open", "stand 3"))
        self.assertEqual(answers, (
            "", "", "edition 1", "claim 1", "claim 2", "stands", "edition 2", "1 2", "turned", "turned", "claim 3",
            "edition 3", "lost", "1 2 3", "calls 5", "1 2", "calls 2", "h", "", "invalid"))
        self.assertEqual(desk.calls, (("edit", (("shape", "h", (2, 1)),)), ("pin", ("which", "h"))))

    def test_show(self):
        things = {"h": HOOK, "none": Sum(3, ()), "low": HOOK.times(-Q), "one": shape_sum((1,))}
        self.assertEqual(said("show h", "show none", "show low", "show one", things=things), (
            "3 1 / 2,1 t+q / 1,1,1 qt", "0", "3 -q / 2,1 -qt-q2 / 1,1,1 -q2t", "1 1"))
        for shape in all_shapes(5):
            made = said("show h", things={"h": shape_sum(shape)})[0]
            self.assertEqual(read_sum("sum 5\n" + made.replace(" / ", "\n") + "\n"), shape_sum(shape))
        long = Poly(tuple((k, k, 10 ** 60 - 1 - abs(k)) for k in range(-200, 200)))
        made = said("show h", "number h s 1", things={"h": Sum(1, (((1,), long),))})
        self.assertGreater(len(made[0]), 20000)
        self.assertEqual(made[0], "1 " + made[1])
        self.assertEqual(len(made[1].split("t")), 400)

    def test_number(self):
        things = {"h": HOOK, "five": shape_sum((3, 2))}
        for name in things:
            for kind in KINDS:
                for shape in all_shapes(things[name].size):
                    line = "number %s %s %s" % (name, kind, ",".join(str(part) for part in shape))
                    made = said(line, things=things)[0]
                    self.assertEqual(made, write_poly(things[name].number_at(kind, shape)))
                    self.assertEqual(read_poly(made), things[name].number_at(kind, shape))
        self.assertEqual(said("number h s 2", "number h s 3,1", "number x s 2", things=things),
                         ("invalid", "invalid", "unknown x"))

    def test_lists(self):
        self.assertEqual(said("list", things={"b": HOOK, "a": HOOK, "a1": HOOK})[0], "a a1 b")
        self.assertEqual(Shell(full_desk()).say("list"), "n0 n1 n2 n3 n4 n5 n6 n7")
        desk = full_desk()
        desk.edit((("drop", "n6"),))
        self.assertEqual(Shell(desk).say("open"), "1 2 3 4 5 6 7 8 9 10 11 12")

    def test_blanks(self):
        self.assertEqual(said("", " ", " " * 2000), ("", "", ""))
        self.assertEqual(said("  shape   h 2,1  ", " show  h ", "pin    whole h"),
                         ("edition 1", "3 1 / 2,1 t+q / 1,1,1 qt", "claim 1"))


class TestWrong(unittest.TestCase):
    def check(self, line, at):
        desk = full_desk()
        before = state(desk)
        self.assertEqual(Shell(desk).say(line), "wrong at %d" % at, line)
        self.assertEqual(state(desk), before)
        self.assertEqual(Shell(desk).say("   " + line), "wrong at %d" % (at + 3), line)

    def test_first_pieces(self):
        for line in ("x", "Shape h 2,1", "lift h", "edit turn n0", "pins", "1", "show,", "-", "equals n0 n1", "desk", "~"):
            self.check(line, 0)
            self.check(line + " n0 n1 n2 n3", 0)
        for line in ("pin show n0", "pin list", "pin turn n0", "pin pin whole n0", "pin stand 1", "pin x", "pin add n0 n1"):
            self.check(line, 4)
        self.check("pin   undo 1", 6)

    def test_lacking(self):
        for line in ("shape", "shape h", "put", "put h", "put h s", "add", "add n0", "take n0", "times", "times n0", "turn",
                     "trade", "letters n0", "nabla", "drop", "equal", "equal n0", "whole", "apart n0", "which", "pin",
                     "pin equal", "pin equal n0", "pin whole", "stand", "undo", "show", "number", "number n0",
                     "number n0 s"):
            self.check(line, len(line))
            self.check(line + "  ", len(line) + 2)

    def test_too_many_pieces(self):
        for line in ("shape h 2,1", "put h s 2,1", "add n0 n1", "take n0 n1", "times n0 q", "turn n0", "trade n0",
                     "letters n0 q", "nabla n0", "drop n0", "equal n0 n1", "whole n0", "apart n0 n1", "which n0",
                     "pin equal n0 n1", "pin whole n0", "stand 1", "undo 1", "show n0", "number n0 s 2,1", "list", "open"):
            self.check(line + " x", len(line) + 1)
            self.check(line + "  n0 n1", len(line) + 2)

    def test_names(self):
        wrong = [name for name in NO_NAMES if isinstance(name, str) and name.isprintable() and " " not in name and name]
        self.assertGreater(len(wrong), 8)
        for name in wrong + ["2,1", "*"]:
            for word in ("turn", "trade", "nabla", "drop", "whole", "which", "show"):
                self.check(word + " " + name, len(word) + 1)
            self.check("add " + name + " " + name, 4)
            self.check("add n0 " + name, 7)
            self.check("pin apart n0 " + name, 13)
            self.check("shape " + name, 6)

    def test_shapes_and_kinds(self):
        for piece in ("6", "3,2,1", "0", "1,2", "2,", ",", "-", "x", "02", "+2", "1,1,1,1,1,1", "()", "2;1"):
            self.check("shape h " + piece, 8)
            self.check("put h s " + piece, 8)
            self.check("number n0 s " + piece, 12)
        for piece in ("x", "S", "ss", "2", "-", "mehps"):
            self.check("put h " + piece + " 2,1", 6)
            self.check("number n0 " + piece, 10)

    def test_polys(self):
        for piece in ("+q", "q+t", "01", "1q", "x", "q201", "9" * 61, "1+", "(q)", "q;t", "-", "q-0"):
            self.check("times n0 " + piece, 9)
            self.check("letters n0 " + piece, 11)
        six, seven = "1+q+q2+q3+q4+q5", "1+q+q2+q3+q4+q5+q6"
        self.check("letters n0 " + seven, 11)
        self.assertEqual(said("letters h " + six, "times h " + seven, "times h 0", things={"h": HOOK}),
                         ("edition 1", "edition 2", "edition 3"))

    def test_integers(self):
        for piece in ("01", "-01", "-0", "00", "+1", "1.0", "x", "--1", "-", "1-", "0x1", "1,1", "1_0"):
            self.check("stand " + piece, 6)
            self.check("undo " + piece, 5)
        for piece in ("0", "-1", "13", "9" * 60, "9" * 61, "-" + "9" * 1900):
            self.assertEqual(Shell(full_desk()).say("stand " + piece), "invalid")
        for piece in ("0", "-1", "-" + "9" * 60, "9" * 61, "-" + "9" * 1900):
            self.assertEqual(Shell(full_desk()).say("undo " + piece), "invalid")
        for piece in ("15", "9" * 60):
            self.assertEqual(Shell(full_desk()).say("undo " + piece), "nothing to undo")

    def test_first_wrong_piece(self):
        self.check("put H x 9", 4)
        self.check("put h x 9 9", 6)
        self.check("put h s 9 9", 8)
        self.check("number N0 s", 7)
        self.check("letters n0 q+t x", 11)


class TestRefused(unittest.TestCase):
    def test_refused(self):
        desk = full_desk()
        desk.edit((("put", "n7", "h", (2,)),))
        before = state(desk)
        shell = Shell(desk)
        for line, answer in (
            ("turn x", "refused unknown"), ("drop x", "refused unknown"), ("add n0 x", "refused unknown"),
            ("add x n0", "refused unknown"), ("times x q", "refused unknown"), ("nabla x", "refused unknown"),
            ("letters x q", "refused unknown"), ("shape x 1", "refused many"), ("put x s 1", "refused many"),
            ("add n0 n7", "refused size"), ("take n7 n0", "refused size"), ("equal x y", "unknown x"),
            ("equal n0 y", "unknown y"), ("whole x", "unknown x"), ("which x", "unknown x"), ("apart n0 zz", "unknown zz"),
            ("show x", "unknown x"), ("number x s 6", "wrong at 11"), ("number x s 5", "unknown x"),
            ("pin whole x", "unknown x"), ("pin equal n0 x", "unknown x"), ("pin whole n0", "too many 12"),
            ("stand 13", "invalid"), ("undo 99", "nothing to undo"),
        ):
            self.assertEqual(shell.say(line), answer, line)
            self.assertEqual(state(desk), before)
        great = Desk({"a": Sum.of_kind("s", (2,)).times(Poly.letter(200, 0))})
        self.assertEqual(Shell(great).tell(("times a q", "trade a")), ("refused great", "edition 1"))

    def test_too_many_editions(self):
        desk = Desk({"a": HOOK})
        for _ in range(40):
            desk.edit((("turn", "a"),))
        shell = Shell(desk)
        self.assertEqual(shell.tell(("turn a", "turn x", "undo 1", "turn a")),
                         ("too many 40", "too many 40", "calls 39", "edition 40"))


class TestShell(unittest.TestCase):
    def test_said(self):
        shell = Shell(Desk())
        self.assertEqual((shell.said, str(shell)), (0, "shell, 0 lines said"))
        shell.tell(("", "x", "turn h", "shape h 2,1"))
        self.assertEqual((shell.said, str(shell)), (4, "shell, 4 lines said"))
        self.assertEqual(shell.tell(()), ())
        self.assertEqual(shell.said, 4)
        self.assertIsInstance(Shell.said, property)

    def test_desk_itself(self):
        desk = Desk()
        one, other = Shell(desk), Shell(desk)
        one.say("shape h 2,1")
        self.assertEqual(desk.things_at(), {"h": HOOK})
        desk.edit((("times", "h", T),))
        self.assertEqual(other.say("show h"), "3 t / 2,1 t2+qt / 1,1,1 qt2")
        self.assertEqual((one.said, other.said), (1, 1))
        self.assertEqual(desk, desk.twin())

    def test_errors(self):
        for wrong in NO_TUPLES + ({"h": HOOK}, Desk, "desk", Shell(Desk())):
            refuse(self, InvalidOperation, None, Shell, wrong)
        desk = Desk()
        shell = Shell(desk)
        for wrong in NO_LINES:
            refuse(self, InvalidOperation, None, shell.say, wrong)
            refuse(self, InvalidOperation, None, shell.tell, (wrong,))
            refuse(self, InvalidOperation, None, shell.tell, ("shape h 2,1", wrong))
        for wrong in tuple(wrong for wrong in NO_TUPLES if wrong != ("3",)) + ("list", ["list"], {"list": 1}, ("list",) * 41, "", Desk()):
            refuse(self, InvalidOperation, None, shell.tell, wrong)
        self.assertEqual((shell.said, desk.calls), (0, ()))
        self.assertEqual(shell.tell(("list",) * 40), ("",) * 40)
        self.assertEqual(shell.say("shape h 2,1" + " " * 1989), "edition 1")
        self.assertEqual(shell.say("x" * 2000), "wrong at 0")
        self.assertEqual(shell.said, 42)


if __name__ == "__main__":
    unittest.main()
