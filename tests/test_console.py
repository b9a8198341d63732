import random
import unittest

from paintposts.console import Console
from paintposts.counts import painted_between, unpainted_from
from paintposts.errors import (
    CommandError, DuplicateName, InvalidPainter, NothingToRedo, NothingToUndo, TooMany, UnknownName)
from paintposts.far import share
from paintposts.fences import Fence
from paintposts.formats import history_table, history_text
from paintposts.history import history
from paintposts.painters import Painter
from paintposts.posts import day_of, painter_of
from paintposts.yards import Yard
from tests.plans import follow, state_of
from tests.samples import ANY_VALUES, BIG
from tests.walks import F, name_of, planted_fences, small_fences

# A number of 80 digits, and one of 81.
MOST, MORE = "9" * 80, "1" + "0" * 80


def console_of(fence):
    console = Console()
    for painter in fence.painters:
        console.run("come " + painter.text)
    return console


def line_of(action):
    return " ".join(map(str, action))


def answers(fence, post, other, day):
    """Lines that ask, and the texts that the functions of the package make of the fence."""
    told = history(fence)
    name, left, right = painter_of(fence, post), share(fence, left=True), share(fence)
    hole = unpainted_from(fence, post, 0)
    yield f"who {post}", "-" if name is None else f"{name} {day_of(fence, post)}"
    yield f"many {post} {other}", str(painted_between(fence, post, other))
    yield f"many {post} {other} {day}", str(painted_between(fence, post, other, day=day))
    yield f"next {post}", "-" if hole is None else str(hole)
    yield "share", f"{left[0]}/{left[1]} {right[0]}/{right[1]}"
    yield "show", fence.text
    yield "history", history_text(fence)
    yield "table", history_table(fence)
    for name in fence.names:
        yield f"end {name}", "-" if told[name][2] is None else " ".join(map(str, told[name][2]))


class ConsoleTest(unittest.TestCase):
    def test_examples(self):
        console = Console()
        self.assertEqual(
            [console("come a 0 0 2"), console.run("come b 0 6 -2"), console("who 6"), console("try leave a ; next 0"),
             console("end b")],
            ["ok", "ok", "b 0", "ok\n1", "2 2 a"])

    def test_the_yard(self):
        console = Console()
        self.assertIs(type(console.yard), Yard)
        self.assertIs(console.yard, console.yard)
        console.run(line="come a 0 0 2")
        self.assertEqual(console.yard.steps, ((("come", "a", 0, 0, 2),),))
        console.yard.act(("come", "b", 0, 6, -2))
        self.assertEqual(console(line="end b"), "2 2 a")
        self.assertEqual(Console().yard.steps, ())

    def test_without_painters(self):
        lines = ("show", "history", "table", "who 0", "many 0 9", "many 0 9 5", "next 7", "share")
        self.assertEqual([Console()(line) for line in lines],
                         ["", "", "name paints day post blocker", "-", "0", "0", "7", "0/1 0/1"])

    def test_lines_that_change(self):
        console = Console()
        lines = ("come a 0 0 2", "come b 0 6 -2", "move a 3 -1", "swap b a", "undo", "undo", "redo", "leave b")
        self.assertEqual([console(line) for line in lines], ["ok"] * 8)
        self.assertEqual(console("show"), "a 3 -1 2")
        self.assertEqual(console.yard.steps, (
            (("come", "a", 0, 0, 2),), (("come", "b", 0, 6, -2),), (("move", "a", 3, -1),), (("leave", "b"),)))

    def test_steps_against_a_yard(self):
        for seed in range(15):
            console, yard = Console(), Yard()
            before = 0
            for _ in follow(340 + seed, yard, 40):
                # Each step of the yard is done as several lines here, so that only the fences are the same.
                while console.yard.undoable > 0:
                    console("undo")
                for step in yard.steps:
                    for action in step:
                        self.assertEqual(console(line_of(action)), "ok")
                self.assertEqual(console("show"), yard.fence_at().text)
                before += 1
            self.assertEqual(before, 40)

    def test_lines_that_ask(self):
        chance = random.Random(341)
        fences = [(fence, 1) for fence in [F, *small_fences(341, 80)]] + [(fence, 30) for fence in planted_fences(342, 6)]
        for fence, digits in fences:
            console = console_of(fence)
            post, other, day = [chance.randint(-10 ** digits, 10 ** digits) for _ in range(2)] + [chance.randint(0, 10 ** digits)]
            before = state_of(console.yard)
            for line, text in answers(fence, post, other, day):
                self.assertEqual(console(line), text, line)
                self.assertEqual(console(f"try {line}"), text)
            self.assertEqual(state_of(console.yard), before)

    def test_texts(self):
        console = console_of(F)
        self.assertEqual(console("history"), "ann -\nbob 2 2 6 ann\ncy 3 5 10 bob")
        self.assertEqual(console("show"), "ann 0 0 3\nbob 0 10 -2\ncy 2 1 3")
        self.assertEqual([console(line) for line in (
            "who 10", "who 2", "many 0 10", "many 0 10 0", "many 10 0", "next 0", "next 3", "end ann", "end cy", "share")],
            ["bob 0", "-", "9", "2", "0", "2", "5", "-", "5 10 bob", "0/1 1/3"])
        full = console_of(Fence(Painter("a", 0, 0, 1)))
        self.assertEqual([full("next 0"), full("next -2"), full("share")], ["-", "-2", "0/1 1/1"])

    def test_numbers_of_80_digits(self):
        console = console_of(F)
        self.assertEqual(console(f"who {3 * 10 ** 79}"), f"ann {10 ** 79}")
        self.assertEqual(console(f"many -{MOST} {MOST} {MOST}"), str(painted_between(F, 1 - BIG, BIG - 1, day=BIG - 1)))
        self.assertEqual(console(f"next -{MOST}"), f"-{MOST}")
        self.assertEqual(console(f"many {MOST} -{MOST}"), "0")

    def test_great_shares(self):
        painters = [Painter(name_of(place), 0, place, 40 * (10 ** 16 - place)) for place in range(40)]
        left, right = console_of(Fence(*painters))("share").split(" ")
        self.assertEqual((left, right), ("0/1", "{}/{}".format(*share(Fence(*painters)))))
        self.assertGreater(len(right), 500)


class NoLinesTest(unittest.TestCase):
    def assert_no_line(self, line):
        console = console_of(F)
        console("undo")
        before = state_of(console.yard)
        for call in (console, console.run):
            with self.assertRaises(CommandError) as caught:
                call(line)
            self.assertIs(caught.exception.line, line)
        self.assertEqual(state_of(console.yard), before)

    def assert_none(self, line):
        """No line, neither alone nor within try, first, last or in between."""
        self.assert_no_line(line)
        for before in ("", "show ; ", "undo ; leave bob ; leave x ; "):
            for behind in ("", " ; show", " ; redo ; leave x"):
                self.assert_no_line(f"try {before}{line}{behind}")

    def test_values_of_any_kind(self):
        for value in ANY_VALUES + [["show"], ("show",), b"show", {"show": 1}]:
            self.assert_no_line(value)

    def test_words_more_less_and_other_ones(self):
        for line in ("come a 0 0 2", "leave ann", "move ann 0 0", "swap ann bob", "undo", "redo", "show", "history", "table",
                     "who 1", "many 0 1", "next 1", "end ann", "share"):
            self.assertIs(type(console_of(F)("try undo ; redo ; undo ; " + line)), str)
            words = line.split(" ")
            self.assert_none(line + (" 1 1" if words[0] == "many" else " 1"))
            if words[0] == "come" or words[0] in ("leave", "undo", "share", "swap"):
                self.assert_none(line + " a")
            if len(words) > 1:
                self.assert_none(" ".join(words[:-1]))
                self.assert_none("  ".join(words))
            for other in (line + " ", " " + line, line + "\n", "\n" + line, line.upper(), line[1:], line.replace(" ", "\t", 1) + "\t",
                          line + " ;", line + ";show", line + " ;show"):
                self.assert_none(other)

    def test_other_lines(self):
        for line in ("", " ", "\n", ";", " ; ", "help", "act come a 0 0 2", "redo 1", "come", "version", "next", "end", "-", "try"):
            self.assert_none(line)

    def test_numbers_not_as_described(self):
        for word in ("-0", "00", "01", "+1", "", "-", "x", "1x", "1_0", "1.0", "\u0661", MORE, "-" + MORE, "9" * 5000, "-" + "9" * 5000):
            for line in ("come a {} 0 2", "come a 0 {} 2", "come a 0 0 {}", "move ann {} 0", "move ann 0 {}", "who {}", "many {} 0",
                         "many 0 {}", "many {} 0 0", "many 0 {} 0", "many 0 0 {}", "next {}"):
                self.assert_none(line.format(word))
        for line in ("come a -1 0 2", "move ann -1 0", "many 0 0 -1"):
            self.assert_none(line)

    def test_names_not_as_described(self):
        for word in ("", "A", "abcdefghi", "a1", "0", "\u00e4", "a\n", "-"):
            for line in ("come {} 0 0 2", "leave {}", "move {} 0 0", "swap {} ann", "swap ann {}", "end {}"):
                self.assert_none(line.format(word))

    def test_try(self):
        for line in ("try", "try ", "try  show", "try show ", "try show ; ", "try  ; show", "try show ;", "try show;show",
                     "try show ;  show", "try show  ; show", "try show ; ; show", "try try show", "try show ; try show", "try\nshow",
                     "Try show", " try show", "try show\n", "trynext 0", "try ; show", "try ;"):
            self.assert_no_line(line)


class ErrorsTest(unittest.TestCase):
    def assert_error(self, line, error, *fields):
        console = console_of(F)
        console("undo")
        before = state_of(console.yard)
        for text in (line, f"try {line}", f"try show ; leave ann ; undo ; {line} ; show", f"try {line} ; leave x"):
            with self.assertRaises(error) as caught:
                console(text)
            self.assertIs(type(caught.exception), error)
            self.assertEqual(list(vars(caught.exception).values()), list(fields))
            self.assertEqual(state_of(console.yard), before)

    def test_errors_of_actions(self):
        for line, reason in (("come x {} 0 1", "day"), ("come x 0 {} 1", "post"), ("come x 0 0 {}", "stride"),
                             ("move ann {} 0", "day"), ("move ann 0 {}", "post")):
            for number in (MOST, str(10 ** 30 + 1)):
                self.assert_error(line.format(number), InvalidPainter, reason)
        self.assert_error("come x 0 0 0", InvalidPainter, "stride")
        self.assert_error(f"come ann 0 -{MOST} 0", InvalidPainter, "post")
        self.assert_error("come ann 0 0 1", DuplicateName, "ann")
        self.assert_error("leave x", UnknownName, "x")
        self.assert_error(f"move x {MOST} 0", UnknownName, "x")
        self.assert_error("swap x y", UnknownName, "x")
        self.assert_error("swap ann y", UnknownName, "y")
        self.assert_error("swap bob bob", DuplicateName, "bob")

    def test_errors_of_questions(self):
        self.assert_error("end cy", UnknownName, "cy")
        with self.assertRaises(UnknownName):
            Console()("end a")

    def test_too_many(self):
        console = console_of(Fence(*(Painter(name_of(place), 0, place, 40) for place in range(40))))
        with self.assertRaises(TooMany) as caught:
            console("come x 0 0 1")
        self.assertEqual(caught.exception.limit, 40)
        self.assertEqual(console("try leave aa ; come x 0 0 1 ; end x"), "ok\nok\n1 1 ab")

    def test_nothing_to_undo_and_to_redo(self):
        console = Console()
        for line, error in (("undo", NothingToUndo), ("redo", NothingToRedo), ("try redo", NothingToRedo),
                            ("try come a 0 0 1 ; undo ; undo", NothingToUndo)):
            with self.assertRaises(error):
                console(line)
        self.assertEqual(state_of(console.yard), state_of(Yard()))


class TryTest(unittest.TestCase):
    def test_texts_one_after_the_other(self):
        console = console_of(F)
        before = state_of(console.yard)
        self.assertEqual(console("try show"), "ann 0 0 3\nbob 0 10 -2\ncy 2 1 3")
        self.assertEqual(console("try leave bob ; history ; undo ; end cy ; redo ; end cy"), "ok\nann -\ncy -\nok\n5 10 bob\nok\n-")
        self.assertEqual(console("try undo ; undo ; undo ; show ; history ; who 0"), "ok\nok\nok\n\n\n-")
        self.assertEqual(state_of(console.yard), before)

    def test_what_can_be_redone_stays(self):
        console = console_of(F)
        console("undo")
        self.assertEqual(console("try come d 0 0 1 ; show ; leave d"), "ok\nann 0 0 3\nbob 0 10 -2\nd 0 0 1\nok")
        self.assertEqual((console.yard.redoable, console("redo"), console("end cy")), (1, "ok", "5 10 bob"))

    def test_an_error_in_the_middle(self):
        console = console_of(F)
        before = state_of(console.yard)
        with self.assertRaises(UnknownName) as caught:
            console("try leave ann ; end bob ; leave ann ; leave bob ; leave zz")
        self.assertEqual(caught.exception.value, "ann")
        self.assertEqual(state_of(console.yard), before)

    def test_no_line_comes_before_all_errors(self):
        console = console_of(F)
        with self.assertRaises(CommandError) as caught:
            console("try leave zz ; leave ann ; shows")
        self.assertEqual(caught.exception.line, "try leave zz ; leave ann ; shows")
