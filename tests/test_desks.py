"""Point 15: the desk."""

import unittest

from rulesheld.desks import Desk
from rulesheld.errors import BadFormat, InvalidText, NotMade, NothingToUndo, NotNow, NotText
from rulesheld.formats import is_number, largest, next_up, smallest
from rulesheld.operations import add, divide, multiply, square_root, subtract
from rulesheld.profiles import profile
from rulesheld.texts import read_number, write_number

from tests.helpers import EXAMPLE, STRANGE, formats

OPERATIONS = {"add": add, "subtract": subtract, "multiply": multiply, "divide": divide}

TEXTS = ("0", "1*2^0", "-1*2^0", "3*2^0", "-5*2^-1", "15*2^4", "-15*2^4", "1*2^-6", "-1*2^-6", "1*2^-3", "7*2^3",
         "9*2^-6", "17*2^0", "1*2^8", "-1*2^-7")


class Model:
    """What a desk does, over a list of all accumulators so far."""

    def __init__(self, form):
        self.form, self.past = form, [(0, 0)]

    def run(self, line):
        now = self.past[-1]
        if line == "show":
            return now if now in ("inf", "-inf") else write_number(now)
        if line == "rules":
            return str(len(profile(self.form)))
        if now in ("inf", "-inf") and not line.startswith("load "):
            raise NotNow
        if line == "root":
            if now[0] < 0:
                raise NotNow
            self.past.append(square_root(self.form, now))
            return None
        word, text = line.split(" ")
        number = read_number(text)
        if not is_number(self.form, number) or (word == "divide" and number == (0, 0)):
            raise NotNow
        self.past.append(number if word == "load" else OPERATIONS[word](self.form, now, number))
        return None

    def undo(self):
        if len(self.past) == 1:
            raise NothingToUndo
        self.past.pop()


def outcome(call, *arguments):
    try:
        return call(*arguments)
    except (NotNow, NothingToUndo) as error:
        return error.__class__


def desk_of(way, *lines):
    desk = Desk((4, -6, 4) + tuple(way.split()))
    for line in lines:
        desk.run(line)
    return desk


class New(unittest.TestCase):
    def test_the_accumulator_is_0(self):
        for form in formats(4, -6, 4) + formats(10, 20, 40):
            desk = Desk(form)
            self.assertEqual(desk.value, (0, 0))
            self.assertEqual(desk.run("show"), "0")
            with self.assertRaises(NothingToUndo):
                desk.undo()

    def test_bad_formats(self):
        for form in STRANGE + ((3,) + EXAMPLE[1:], EXAMPLE[:5], (4, -6, 15) + EXAMPLE[3:], list(EXAMPLE)):
            with self.assertRaises(BadFormat):
                Desk(form)

    def test_each_name_stands_in_the_class(self):
        for name in ("run", "undo", "value"):
            self.assertIn(name, vars(Desk))

    def test_desks_do_not_share(self):
        one, other = Desk(EXAMPLE), Desk(EXAMPLE)
        one.run("load 1*2^0")
        self.assertEqual((one.value, other.value), ((1, 0), (0, 0)))


class Lines(unittest.TestCase):
    way = "even gradual infinite"

    def test_each_line(self):
        desk = Desk(EXAMPLE)
        for line, value in (
                ("load 7*2^0", (7, 0)), ("add 1*2^0", (1, 3)), ("subtract 1*2^-6", (1, 3)), ("subtract 3*2^0", (5, 0)),
                ("multiply -3*2^0", (-15, 0)), ("divide 5*2^0", (-3, 0)), ("multiply -3*2^0", (9, 0)), ("root", (3, 0)),
                ("divide 1*2^1", (3, -1)), ("root", (5, -2)), ("load 0", (0, 0)), ("root", (0, 0)), ("add 0", (0, 0)),
                ("load -1*2^-6", (-1, -6)), ("divide 1*2^1", (0, 0)), ("load 15*2^4", (15, 4)),
                ("multiply -1*2^1", "-inf"), ("load 1*2^7", (1, 7)), ("divide 1*2^-6", "inf")):
            self.assertIsNone(desk.run(line), line)
            self.assertEqual(desk.value, value, line)
            shown = desk.run("show")
            self.assertEqual(shown, value if isinstance(value, str) else write_number(value))
            self.assertEqual(desk.run("rules"), "6")

    def test_rules(self):
        for form in formats(4, -6, 4) + formats(10, 0, 0) + formats(6, -1, 5):
            got = Desk(form).run("rules")
            self.assertIsInstance(got, str)
            self.assertEqual(got, str(len(profile(form))))
        self.assertEqual(Desk((4, 0, 0, "up", "gradual", "largest")).run("rules"), "12")

    def test_the_number_is_the_second_operand(self):
        self.assertEqual(desk_of(self.way, "load 1*2^0", "subtract 3*2^0").value, (-1, 1))
        self.assertEqual(desk_of(self.way, "load 1*2^0", "divide 1*2^2").value, (1, -2))

    def test_an_infinite_accumulator(self):
        for lines, text in ((("load 15*2^4", "add 15*2^4"), "inf"), (("load -15*2^4", "add -15*2^4"), "-inf")):
            desk = desk_of(self.way, *lines)
            self.assertEqual(desk.value, text)
            self.assertEqual(desk.run("show"), text)
            self.assertEqual(desk.run("rules"), "6")
            for line in ("add 0", "subtract 15*2^4", "multiply 0", "divide 1*2^0", "divide 0", "root", "add 17*2^0",
                         "load 17*2^0", "load 1*2^-7"):
                with self.assertRaises(NotNow, msg=line):
                    desk.run(line)
                self.assertEqual(desk.value, text)
            for line in ("load inf", "load -inf", "add inf", "add", "load", "root 0", "add 2*2^0", "Load 0"):
                with self.assertRaises(InvalidText, msg=line):
                    desk.run(line)
                self.assertEqual(desk.value, text)
            self.assertIsNone(desk.run("load 3*2^1"))
            self.assertEqual(desk.value, (3, 1))
            desk.undo()
            self.assertEqual(desk.value, text)
            desk.undo()
            self.assertEqual(desk.value, read_number(lines[0].split(" ")[1]))

    def test_what_is_not_possible_now(self):
        for start in ("0", "3*2^1", "-3*2^1"):
            desk = desk_of(self.way, "load " + start)
            for word in ("add", "subtract", "multiply", "divide", "load"):
                for text in ("17*2^0", "-17*2^0", "1*2^-7", "1*2^8", "15*2^5", "1*2^400", "1*2^-400", "9" * 40 + "*2^0"):
                    self.refuses(desk, NotNow, word + " " + text)
            self.refuses(desk, NotNow, "divide 0")
        self.refuses(desk_of(self.way, "load -1*2^-6"), NotNow, "root")
        # a number of the format only if tiny is gradual
        self.refuses(desk_of("even flush infinite"), NotNow, "load 1*2^-6")
        self.assertEqual(desk_of("even gradual infinite", "load 1*2^-6").value, (1, -6))

    def test_invalid_lines(self):
        desk = desk_of(self.way, "load 5*2^0")
        for line in (
                "", " ", "\n", "add", "add ", "subtract", "multiply", "divide", "load", "load ", "add 0 ", " add 0",
                "add  0", "add\t0", "add\n0", "add 0\n", "add0", "Add 0", "ADD 0", "plus 0", "add 0 0", "add 0, 0",
                "add inf", "add -inf", "subtract inf", "multiply -inf", "divide inf", "load inf", "load -inf", "inf",
                "add 5", "add 2*2^0", "add 0*2^0", "add -0", "add +1*2^0", "add 01*2^0", "add 1*2^01", "add 1*2^-0",
                "add 1*2^401", "add 1*2^-401", "add 1" + "0" * 39 + "1*2^0", "add 1*2^0 1*2^0", "add add 0",
                "root ", " root", "root 0", "root 1*2^0", "Root", "root\n", "roots", "show ", " show", "Show", "show 0",
                "show\n", "rules ", "Rules", "rules 0", "rule", "undo", "value", "0", "1*2^0", "add_0", "add-1*2^0",
                "add ١*2^0", "add\u00a00", "halves", "None", "load None", "load (1, 0)"):
            self.refuses(desk, InvalidText, line)

    def test_values_that_are_no_lines(self):
        desk = desk_of(self.way, "load 5*2^0")
        for line in STRANGE + (0, 1, b"show", b"add 0", ["show"], ("show",), ("add", (1, 0)), {"show": 0}):
            self.refuses(desk, InvalidText if isinstance(line, str) else NotText, line)

    def refuses(self, desk, error, line):
        """The line is refused, and the desk stays as it is, with all that can be taken back."""
        value = desk.value
        with self.assertRaises(error, msg=repr(line)) as caught:
            desk.run(line)
        self.assertNotIsInstance(caught.exception, NotMade)
        self.assertEqual(desk.value, value)
        desk.run("load 1*2^0")
        desk.undo()
        self.assertEqual(desk.value, value)


class Undo(unittest.TestCase):
    def test_to_the_beginning_and_once_more(self):
        lines = ("load 15*2^4", "add 15*2^4", "load 9*2^0", "root", "divide 1*2^1", "multiply 0", "load -1*2^0")
        desk = Desk(EXAMPLE)
        values = [desk.value]
        for line in lines:
            self.assertIsNone(desk.run(line))
            values.append(desk.value)
        self.assertEqual(values, [(0, 0), (15, 4), "inf", (9, 0), (3, 0), (3, -1), (0, 0), (-1, 0)])
        for value in reversed(values[:-1]):
            self.assertIsNone(desk.undo())
            self.assertEqual(desk.value, value)
        for _ in range(3):
            with self.assertRaises(NothingToUndo):
                desk.undo()
            self.assertEqual(desk.value, (0, 0))
        desk.run("load 1*2^0")
        self.assertEqual(desk.value, (1, 0))

    def test_lines_that_return_a_text_or_fail_are_not_taken_back(self):
        desk = desk_of("even gradual infinite", "load 1*2^0", "load 3*2^0")
        desk.run("show")
        desk.run("rules")
        for line in ("divide 0", "add 17*2^0", "add", "nothing"):
            with self.assertRaises((NotNow, InvalidText)):
                desk.run(line)
        desk.undo()
        self.assertEqual(desk.value, (1, 0))
        desk.run("show")
        desk.undo()
        self.assertEqual(desk.value, (0, 0))
        desk.run("rules")
        with self.assertRaises(NothingToUndo):
            desk.undo()

    def test_a_line_that_does_not_change_the_accumulator_is_taken_back(self):
        desk = desk_of("even gradual infinite", "load 3*2^0", "add 0", "multiply 1*2^0")
        for expected in ((3, 0), (3, 0), (0, 0)):
            desk.undo()
            self.assertEqual(desk.value, expected)


class Sequences(unittest.TestCase):
    def test_long_sequences_against_the_model(self):
        for seed, form in enumerate(formats(4, -6, 4) + formats(7, -7, 1)):
            desk, model = Desk(form), Model(form)
            for line in self.lines(form, seed + 1, 400):
                if line == "undo":
                    got, expected = outcome(desk.undo), outcome(model.undo)
                else:
                    got, expected = outcome(desk.run, line), outcome(model.run, line)
                self.assertEqual(got, expected, (form, line))
                self.assertEqual(desk.value, model.past[-1], (form, line))
            while len(model.past) > 1:
                model.undo()
                desk.undo()
                self.assertEqual(desk.value, model.past[-1])
            self.assertIs(outcome(desk.undo), NothingToUndo)

    def lines(self, form, seed, many):
        """Lines of every kind, always the same for a seed."""
        edges = tuple(write_number(x) for x in (largest(form), smallest(form), next_up(form, (1, 0))))
        texts = TEXTS + edges
        words = ("add", "subtract", "multiply", "divide", "load", "add", "root", "show", "rules", "undo", "multiply")
        found = []
        for _ in range(many):
            seed = (seed * 1103515245 + 12345) % 2 ** 31
            word = words[(seed >> 8) % len(words)]
            alone = word in ("root", "show", "rules", "undo")
            found.append(word if alone else word + " " + texts[(seed >> 16) % len(texts)])
        return found

    def test_the_sequences_meet_every_outcome(self):
        met = set()
        for seed, form in enumerate(formats(4, -6, 4)):
            model = Model(form)
            for line in self.lines(form, seed + 1, 400):
                got = outcome(model.undo) if line == "undo" else outcome(model.run, line)
                word = line.split(" ")[0]
                met.add((word, got if got in (None, NotNow, NothingToUndo) else "text"))
                met.add(model.past[-1] if isinstance(model.past[-1], str) else "number")
        for word in ("add", "subtract", "multiply", "divide", "load", "root"):
            self.assertLessEqual({(word, None), (word, NotNow)}, met)
        self.assertLessEqual({"inf", "-inf", "number", ("undo", None), ("undo", NothingToUndo)}, met)


if __name__ == "__main__":
    unittest.main()
