"""Texts of shapes, templates and data, written and read (points 53 to 58)."""

import random
import re
import time
import unittest

import chance
import dice_templates
import expected
import expected_texts
from helpers import clear, exactly, outcome, spoiled
from samples import group, one, part, rich, rich_data, rich_items, specs
from statestay.shapes import Shape, check
from statestay.templates import Template
from statestay.texts import read_data, read_shape, read_template, write_data, write_shape, write_template

WORDS = ["flag", "list", "field", "row", "part", "group", "if", "else", "for", "define", "piece", "slot", "none", "word",
         "id", "up", "both", "not", "empty", "yes", "no", "todo", "step", "menu", "mark", "on", "new", "old", "a", "w",
         "x", "0", "00", "7", "07", "5", "1000000", "1000001", "9999999", "12345678", "-1", "A", "abcdefghi", "a1",
         "", "\t", "\r", "\u00e9", "\u0663", "\u00b2", "a\u00a0", "a\x0b", "a\x85", "a\u2028"]
SIGNS = list("ab0 \n\r\t-_A.") + ["  ", "\n\n", "\u00e9", "\x0c", "\u2028"]


def spoiled_lines(dice, rows):
    """The lines with one of them changed, left out, doubled, exchanged, moved in or out."""
    rows = list(rows)
    if not rows:
        return [dice.choice(WORDS)]
    at, to = dice.randrange(len(rows)), dice.randrange(len(rows))
    what = dice.randrange(9)
    if what == 0:
        rows.pop(at)
    elif what == 1:
        rows.insert(to, rows[at])
    elif what == 2:
        rows[at], rows[to] = rows[to], rows[at]
    elif what == 3:
        rows[at] = " " * dice.choice([1, 2, 2, 2, 4, 18]) + rows[at]
    elif what == 4:
        rows[at] = rows[at][dice.choice([1, 2, 2, 2]):]
    elif what == 5:
        # The line, and all that stands behind it, is moved in or out.
        many = dice.choice([-2, 2])
        rows[at:] = [" " * many + row if many > 0 else row[2:] for row in rows[at:]]
    elif what in (6, 7):
        words = rows[at].split(" ")
        place = dice.randrange(len(words))
        words[place:place + dice.choice([0, 1, 1, 1, 1])] = [dice.choice(WORDS)] * dice.choice([0, 1, 1, 1, 1, 2])
        rows[at] = " ".join(words)
    else:
        rows.insert(to, "  " * dice.randrange(3) + " ".join(dice.choices(WORDS, k=dice.randint(1, 3))))
    return rows


def spoiled_text(dice, text):
    """The text with zero to three lines or signs changed."""
    for turn in range(dice.randint(0, 3)):
        what = dice.random()
        at = dice.randint(0, len(text))
        if what < 0.7:
            text = "\n".join(spoiled_lines(dice, text.split("\n")[:-1])) + "\n"
        elif what < 0.8:
            text = text[:at] + text[at + 1:]
        elif what < 0.9:
            text = text[:at] + dice.choice(SIGNS) + text[at + 1:]
        else:
            text = text[:at] + dice.choice(SIGNS) + text[at:]
    return text


class Shapes(unittest.TestCase):
    def compare(self, text):
        wanted = expected_texts.shape_reading(text)
        told = outcome(read_shape, text)
        if wanted[0] != "told":
            self.assertEqual(told, wanted, text)
            return wanted
        self.assertIsNone(told, text)
        self.assertTrue(read_shape(text) == Shape(*wanted[1]))
        self.assertEqual(write_shape(read_shape(text)), text)
        return wanted

    def test_written(self):
        for flags, lists in specs():
            shape = Shape(flags, lists)
            text = write_shape(shape)
            self.assertEqual(exactly(text), exactly(expected_texts.shape_text((flags, lists))))
            self.assertTrue(read_shape(text) == shape)
            self.assertEqual(self.compare(text)[0], "told")

    def test_by_hand(self):
        self.assertEqual(write_shape(Shape([], {})), "")
        self.assertTrue(read_shape("") == Shape([], {}))
        fields = {"tone": ("red", "blue", "green"), "mark": ("old", "new")}
        shape = Shape(["open", "dark"], {"todo": one(fields, {"all": one({"z": ("b", "a")})}), "menu": one()})
        text = ("flag dark\nflag open\nlist menu\nlist todo\n  field mark old new\n  field tone red blue green\n"
                "  list all\n    field z b a\n")
        self.assertEqual(write_shape(shape), text)
        self.assertTrue(read_shape(text) == shape)
        self.assertEqual(read_shape(text).fields("todo")["tone"], ("red", "blue", "green"))

    def test_wrong_texts(self):
        for text, line in (
            ("flag on", 0), ("flag on\n\n", 2), ("\n", 1), ("\n\n", 1), (" flag on\n", 1), ("  flag on\n", 0),
            ("flag on \n", 1), ("flag  on\n", 1), ("flag\n", 1), ("flag on off\n", 1), ("flag b\nflag a\n", 0),
            ("flag a\nflag a\n", 0), ("flag a\nflag b\nflag c\n", 0), ("list a\nflag on\n", 0), ("list b\nlist a\n", 0),
            ("list a\nlist b\nlist c\n", 0), ("list a\nlist a\n", 0), ("list a\n  list a\n", 0),
            ("list a\n  list b\n  list c\n", 0), ("list a\n  list b\n    list c\n", 0), ("list a\n    list b\n", 0),
            ("field f a b\n", 0), ("list a\nfield f a b\n", 0), ("list a\n  field f a\n", 2),
            ("list a\n  field f a b c d\n", 2), ("list a\n  field f a a\n", 0), ("list a\n  field g a b\n  field f a b\n", 0),
            ("list a\n  field f a b\n  field f a b\n", 0), ("list a\n  list b\n  field f a b\n", 0),
            ("list a\n field f a b\n", 2), ("list a\n\tfield f a b\n", 2), ("flag on\r\n", 1), ("flag \u00e9\n", 1),
            ("flag abcdefghi\n", 1), ("flag On\n", 1), ("list a\n  field f a b\nfla g\n", 3), ("flag on\nflag", 2),
            ("list a\n  field e a b\n  field f a b\n  field g a b\n", 0), ("define a\n", 1), ("list a\nflag b\nlist\n", 3),
        ):
            self.assertEqual(outcome(read_shape, text), ("InvalidText", line), text)
            self.compare(text)

    def test_spoiled_texts(self):
        dice = random.Random(57)
        several = list(specs())
        told = []
        for turn in range(6000):
            flags, lists = dice.choice(several)
            told.append(self.compare(spoiled_text(dice, write_shape(Shape(flags, lists))))[0])
        self.assertGreater(told.count("told"), 500)


class Templates(unittest.TestCase):
    def compare(self, spec, text):
        wanted = expected_texts.template_reading(spec, text)
        shape = Shape(*spec)
        told = outcome(read_template, shape, text)
        if wanted[0] != "told":
            self.assertEqual(told, wanted, text)
            return wanted
        self.assertIsNone(told, text)
        result = read_template(shape, text)
        self.assertTrue(result == Template(shape, wanted[1], pieces=wanted[2]))
        self.assertEqual(exactly(result.spread()), exactly(expected.spread(wanted[1], wanted[2])))
        return wanted

    def cases(self, seed, many):
        dice = random.Random(seed)
        for turn in range(many):
            several = chance if turn % 2 else dice_templates
            spec = dice.choice(several.specs())
            yield dice, spec, several.items(dice, spec)

    def test_written(self):
        for dice, spec, items in self.cases(55, 150):
            template = Template(Shape(*spec), items)
            text = write_template(template)
            self.assertEqual(exactly(text), exactly(expected_texts.template_text(items)))
            self.assertTrue(read_template(Shape(*spec), text) == template)
            self.assertEqual(write_template(read_template(Shape(*spec), text)), text)
            self.assertEqual(self.compare(spec, text)[0], "told")

    def test_by_hand(self):
        spec = (["on"], {"todo": one({"mark": ("new", "old")}, {"step": one()})})
        items = [("if", ("not", ("flag", "on")), [], [group([], ("word", "none"))]), ("for", "todo", [
            part("none", ("both", ("id",), ("up", ("word", "up"))), [("for", "step", [])]),
            ("if", ("field", "mark", "old"), [("if", ("empty", "step"), [], [])], [])])]
        text = ("if not flag on\nelse\n  group word none\nfor todo\n  part none both id up word up\n    for step\n"
                "  if field mark old\n    if empty step\n    else\n  else\n")
        self.assertEqual(write_template(Template(Shape(*spec), items)), text)
        self.assertEqual(read_template(Shape(*spec), text).spread(), items)
        self.assertEqual(write_template(Template(Shape(*spec), [])), "")
        self.assertEqual(read_template(Shape(*spec), "").spread(), [])

    def test_pieces_and_slots(self):
        spec = rich()
        items, pieces = rich_items()
        # What is dropped or not used needs a form in a text, too.
        items[0][2][1] = ("piece", "line", [part("gone")])
        pieces["never"] = [part("a", None, [("slot",)])]
        text = expected_texts.template_text(items, pieces)
        template = Template(Shape(*spec), items, pieces=pieces)
        result = read_template(Shape(*spec), text)
        self.assertTrue(result == template)
        self.assertEqual(self.compare(spec, text)[0], "told")
        self.assertEqual(write_template(result), expected_texts.template_text(template.spread()))
        text = "define a\ndefine b\n  slot\ndefine c\n  part x none\n    slot\npiece c\n  piece b\n    piece a\n      slot\n"
        self.assertEqual(outcome(read_template, Shape([], {}), text), ("InvalidTemplate", "form", (0, 0, 0, 0, 0, 0, 0)))
        self.assertEqual(self.compare(([], {}), text[:-len("      slot\n")])[0], "told")

    def test_names_of_forms(self):
        for name in [word for word in WORDS if re.fullmatch("[a-z]{1,8}", word)]:
            spec = ([name], {name: one({name: (name, "zz")})})
            items = [("piece", name, [("if", ("flag", name), [part(name, ("word", name))], [])]),
                     ("for", name, [("if", ("not", ("field", name, name)), [part(name, ("field", name))], [group()])]),
                     ("if", ("empty", name), [], [part(name)]), ("piece", name, [])]
            pieces = {name: [group([("slot",)]), part(name)]}
            text = expected_texts.template_text(items, pieces)
            self.assertEqual(self.compare(spec, text)[0], "told")
            template = Template(Shape(*spec), items, pieces=pieces)
            self.assertTrue(read_template(Shape(*spec), text) == template)
            self.assertTrue(read_template(Shape(*spec), write_template(template)) == template)
            self.assertTrue(read_shape(write_shape(Shape(*spec))) == Shape(*spec))
            data = {"flags": {name: True}, "lists": {name: [{"id": 0, "fields": {name: name}, "lists": {}}]}}
            self.assertEqual(exactly(read_data(Shape(*spec), write_data(Shape(*spec), data))), exactly(data))

    def test_wrong_lines(self):
        fine = "part a none\n"
        for line in ("part", "part a", "part none", "part a none none", "part a id id", "part a word", "part a field",
                     "part a up", "part a up none", "part a both id", "part a both id none", "part a both none id",
                     "part a up up up up id", "part a both id both id both id both id id", "part A none", "part a None",
                     "part a word A", "part a word abcdefghi", "group", "group a", "group id id", "group up up up up id",
                     "if", "if flag", "if flag a b", "if field a", "if field a b c", "if empty", "if not", "if up",
                     "if not not not not flag a", "if up up up up empty a", "if id", "if none", "if both flag a flag b",
                     "else a", "for", "for a b", "for A", "define", "define a b", "define A", "piece", "piece a b",
                     "slot a", "slot ", " slot", "   slot", "\tslot", "part  a none", "part a  none", "part a none ", "",
                     "  ", " ", "row 5", "list a", "flag a", "part \u00e9 none", "part a none\r", "Part a none",
                     "part a both", "part a both word", "part a both word w", "part a both word w word", "\u2028"):
            for text, number in ((line + "\n", 1), (line, 1) if line else ("\n", 1), (fine + line + "\n" + fine, 2),
                                 (fine * 3 + line + "\nelse\n", 4)):
                self.assertEqual(outcome(read_template, Shape([], {}), text), ("InvalidText", number), repr(text))
                self.compare(([], {}), text)

    def test_lines_with_a_form(self):
        shape = Shape(["up", "on"], {"for": one({"id": ("up", "word")}, {"if": one()})})
        text = ("if not not not flag on\nelse\nif up flag on\nelse\nfor for\n  part part up up up word w\n"
                "  part id both both both id id id id\n  if field id up\n    part part field id\n  else\n    group none\n")
        self.assertEqual(outcome(read_template, shape, text), ("InvalidTemplate", "test", (1,)))
        text = text.replace("if up flag on", "if not flag up")
        self.assertEqual(outcome(read_template, shape, text), ("InvalidTemplate", "key", (2, 0, 0)))
        text = text.replace("up up up word w", "up word w")
        self.assertEqual(outcome(read_template, shape, text), None)
        self.assertEqual(read_template(shape, text).spread()[2][2][:2], [
            part("part", ("up", ("word", "w"))),
            part("id", ("both", ("both", ("both", ("id",), ("id",)), ("id",)), ("id",)))])

    def test_lines_that_do_not_fit_together(self):
        a, b = "part a none\n", "if flag on\n"
        for text in (
            a[:-1], a + a[:-1], "  " + a, a + "    " + a, "slot\n  " + a, "define p\n  slot\n    " + a, b, b + a,
            b + "  " + a, b + "  " + a + a + "else\n", "else\n", a + "else\n", b + "else\nelse\n", b + "  else\n",
            b + "  " + b + "else\n", b + "  " + b + "  else\n", a + "  else\n", b + "else\n  else\n",
            a + "define p\n", "  define p\n", "define p\n  define q\n", "define p\ndefine p\n", "define p\n  " + a + a +
            "define q\n", b + "define p\nelse\n", b + "else\ndefine p\n", "define p\n  " + b, "define p\n  " + b + a,
            "define p\n  " + b + "else\n", "slot\ndefine p\n", "define p\nelse\n", "define p\n  else\n",
            "".join(["  " * at + "group none\n" for at in range(10)]), "define p\n" + "".join(
                ["  " * at + "group none\n" for at in range(1, 10)]),
        ):
            self.assertEqual(outcome(read_template, Shape(["on"], {}), text), ("InvalidText", 0), repr(text))
            self.compare((["on"], {}), text)
            # A line without a form comes first, wherever it stands.
            many = len(text.split("\n")) - (text[-1] == "\n")
            worse = text + "\n" * (text[-1] != "\n") + "zz\n"
            self.assertEqual(outcome(read_template, Shape(["on"], {}), worse), ("InvalidText", many + 1))

    def test_then_what_template_tells(self):
        spec = (["on"], {"todo": one()})
        tall = "".join(["  " * at + "group none\n" for at in range(9)])
        for text, told in (
            ("slot\n", ("form", (0,))), ("group none\n  slot\n", ("form", (0, 0, 0))), ("piece p\n", ("form", (0,))),
            ("define p\n  slot\n  slot\n", ("form", ("pieces", "p", 1))),
            ("define p\ndefine q\n  piece p\n", ("form", ("pieces", "q", 0))), (tall, ("depth", (0,) * 17)),
            ("define a\ndefine b\ndefine c\ndefine d\n", ("form", ("pieces",))), ("for step\n", ("list", (0,))),
            ("group none\n" * 41, ("many", (40,))), ("group none\n" * 25, ("many", (24,))),
            ("part a id\n", ("key", (0,))), ("if flag off\nelse\n", ("test", (0,))), ("for todo\nfor todo\n", ("list", (1,))),
            ("define p\n" + "".join(["  " * at + "group none\n" for at in range(1, 9)]), None),
            ("define p\n" + "".join(["  " * at + "group none\n" for at in range(1, 9)]) + "group none\n  piece p\n",
             ("depth", (0,) * 17)), ("define p\n  part a up id\n", None),
        ):
            self.assertEqual(outcome(read_template, Shape(*spec), text), told and ("InvalidTemplate",) + told, text)
            self.compare(spec, text)

    def test_spoiled_texts(self):
        found = {}
        for dice, spec, items in self.cases(56, 200):
            text = write_template(Template(Shape(*spec), items))
            if dice.random() < 0.5:
                text = "define a\n  part b none\n    slot\ndefine w\n" + text + "piece a\n  piece w\n"
            for turn in range(25):
                told = self.compare(spec, spoiled_text(dice, text))
                kind = told[:2] if told[0] == "InvalidTemplate" else (told[0], told[0] != "told" and told[1] > 0)
                found[kind] = found.get(kind, 0) + 1
        self.assertGreater(min(found[("told", False)], found[("InvalidText", True)], found[("InvalidText", False)]), 300)
        self.assertLess({("InvalidTemplate", part) for part in ("form", "key", "test", "list", "many")}, set(found))

    def test_very_long_and_very_deep_lines(self):
        shape = Shape(["on"], {})
        started = time.monotonic()
        for line in ("part a " + "up " * 5000 + "id", "part a " + "both " * 5000 + "id", "if " + "not " * 5000 + "flag on",
                     "part a " + "both id " * 3000 + "id", "if " + "up " * 5000, "a " * 5000, "part " * 5000):
            self.assertEqual(outcome(read_template, shape, line.strip() + "\n"), ("InvalidText", 1))
            for read in (read_shape, lambda text: read_data(shape, text)):
                self.assertEqual(outcome(read, line.strip() + "\n"), ("InvalidText", 1))
        deep = " " * 10000
        self.assertEqual(outcome(read_template, shape, deep + "slot\n"), ("InvalidText", 0))
        self.assertEqual(outcome(read_template, shape, deep + " slot\n"), ("InvalidText", 1))
        stairs = "".join(["  " * at + "group none\n" for at in range(1500)])
        self.assertEqual(outcome(read_template, shape, stairs), ("InvalidText", 0))
        stairs = "".join(["  " * at + "list a\n" for at in range(1500)])
        self.assertEqual(outcome(read_shape, stairs), ("InvalidText", 0))
        self.assertEqual(outcome(read_data, shape, stairs), ("InvalidText", 0))
        stairs = "".join(["  " * at + ("row 5\n" if at % 2 else "list todo\n") for at in range(1500)])
        self.assertEqual(outcome(read_data, Shape([], {"todo": one()}), stairs), ("InvalidText", 0))
        self.assertEqual(outcome(read_template, shape, "group none\n" * 20000), ("InvalidTemplate", "many", (40,)))
        self.assertLess(time.monotonic() - started, 20)


class Data(unittest.TestCase):
    def compare(self, spec, text):
        wanted = expected_texts.data_reading(spec, text)
        shape = Shape(*spec)
        told = outcome(read_data, shape, text)
        if wanted[0] != "told":
            self.assertEqual(told, wanted, text)
            return wanted
        self.assertIsNone(told, text)
        result = read_data(shape, text)
        self.assertEqual(exactly(result), exactly(wanted[1]))
        check(shape, result)
        self.assertEqual(write_data(shape, result), text)
        return wanted

    def test_written(self):
        dice = random.Random(58)
        for turn in range(200):
            flags, lists = dice.choice(list(all_specs()))
            data = chance.data(dice, (flags, lists), dice.choice([0, 2, 4]), 9)
            shape = Shape(flags, lists)
            before = exactly(data)
            text = write_data(shape, data)
            self.assertEqual(exactly(text), exactly(expected_texts.data_text((flags, lists), data)))
            self.assertEqual(exactly(read_data(shape, text)), before)
            self.assertEqual(self.compare((flags, lists), text)[0], "told")
            self.assertEqual(exactly(data), before)

    def test_by_hand(self):
        text = ("flag dark no\nflag open yes\nlist menu\n  row 5 cake\n    list bite\n      row 5\n      row 0\n"
                "list todo\n  row 0 new red\n    list step\n      row 0 odd small\n      row 5 new large\n"
                "  row 1000000 old green\n    list step\n  row 5 new blue\n    list step\n      row 5 old small\n")
        self.assertEqual(write_data(Shape(*rich()), rich_data()), text)
        self.assertEqual(exactly(read_data(Shape(*rich()), text)), exactly(rich_data()))
        self.assertEqual(write_data(Shape([], {}), {"flags": {}, "lists": {}}), "")
        self.assertEqual(read_data(Shape([], {}), ""), {"flags": {}, "lists": {}})

    def test_wrong_texts(self):
        spec = (["on"], {"todo": one({"mark": ("new", "old")}, {"step": one()}), "all": one()})
        head = "flag on yes\nlist all\n"
        row = "  row 5 new\n    list step\n"
        self.assertEqual(self.compare(spec, head + "list todo\n" + row)[0], "told")
        for text, line in (
            ("", 0), ("flag on yes", 0), ("flag on\n", 1), ("flag on maybe\n", 1), ("flag on Yes\n", 1),
            ("flag on no no\n", 1), ("flag on yes\n", 0), (head, 0), ("list all\nflag on yes\nlist todo\n", 0),
            ("flag on yes\nlist todo\nlist all\n", 0), (head + "list todo\nlist todo\n", 0), (head + "list zz\n", 0),
            ("flag on yes\nflag on no\nlist all\nlist todo\n", 0), ("flag off yes\nlist all\nlist todo\n", 0),
            (head + "list todo\n  row 5\n    list step\n", 0), (head + "list todo\n  row 5 new\n", 0),
            (head + "list todo\n  row 5 zz\n    list step\n", 0), (head + "list todo\n  row 5 new old\n    list step\n", 0),
            (head + "list todo\n" + row + row, 0), (head + "list todo\n" + row + row.replace("5", "6"), None),
            (head + "list todo\n" + row + "      row 5\n", None), (head + "list todo\n" + row + "      row 5 a\n", 0),
            (head + "list todo\n" + row + "    row 5\n", 0), (head + "list todo\n" + row + "      row 5\n      row 5\n", 0),
            (head + "  row 7\nlist todo\n", None), (head + "row 7\nlist todo\n", 0), (head + "    row 7\nlist todo\n", 0),
            (head + "  row 07\n", 3), (head + "  row 00\n", 3), (head + "  row\n", 3), (head + "  row -1\n", 3),
            (head + "  row 12345678\n", 3), (head + "  row 7 a b c\n", 3), (head + "  row 7 A\n", 3),
            (head + "  row \u0663\n", 3), (head + "  row \u00b2\n", 3), (head + "  row 1_0\n", 3), (head + "  row +1\n", 3),
            (head + "  row 0\nlist todo\n", None), (head + "  row 1000000\nlist todo\n", None),
            (head + "  row 1000001\nlist todo\n", 0), (head + "  row 9999999\nlist todo\n", 0),
            (head + "  row 7\nlist todo", 0), (head + "  row 7\nlist todo\n\n", 5), (head + "  list step\nlist todo\n", 0),
            (head + "  flag on yes\nlist todo\n", 0), (head + "  row 7\n    list step\nlist todo\n", 0),
            (head + "   row 7\n", 3), (head + "  row 7 \n", 3), (head + "  row  7\n", 3), (head + "  row 7\r\n", 3),
        ):
            wanted = None if line is None else ("InvalidText", line)
            self.assertEqual(outcome(read_data, Shape(*spec), text), wanted, repr(text))
            self.compare(spec, text)

    def test_spoiled_texts(self):
        dice = random.Random(59)
        several = list(all_specs())
        found = {}
        for turn in range(6000):
            flags, lists = dice.choice(several)
            data = chance.data(dice, (flags, lists), 2, 9)
            told = self.compare((flags, lists), spoiled_text(dice, expected_texts.data_text((flags, lists), data)))
            kind = (told[0], told[0] != "told" and told[1] > 0)
            found[kind] = found.get(kind, 0) + 1
        self.assertGreater(min(found.values()), 500)
        self.assertEqual(len(found), 3)

    def test_300_rows(self):
        spec = ([], {"todo": one({}, {"step": one()})})
        shape = Shape(*spec)
        for many in (299, 300, 301, 302):
            rows = [{"id": at, "fields": {}, "lists": {"step": []}} for at in range(many - 20)]
            rows[7]["lists"]["step"] = [{"id": at, "fields": {}, "lists": {}} for at in range(20)]
            data = {"flags": {}, "lists": {"todo": rows}}
            text = expected_texts.data_text(spec, data)
            self.assertEqual(outcome(write_data, shape, data), ("LimitExceeded", 300) if many > 300 else None)
            self.assertEqual(self.compare(spec, text), ("InvalidText", 0) if many > 300 else ("told", data))
            self.assertEqual(outcome(read_data, shape, text + "zz\n"), ("InvalidText", text.count("\n") + 1))

    def test_data_that_are_none(self):
        dice = random.Random(60)
        for turn in range(400):
            data = spoiled(rich_data(), dice)
            wanted = expected.data_error(rich(), data)
            self.assertEqual(exactly(outcome(write_data, Shape(*rich()), data)), exactly(wanted))
            if wanted is None:
                self.assertEqual(write_data(Shape(*rich()), data), expected_texts.data_text(rich(), data))

    def test_the_result_is_new(self):
        shape = Shape(*rich())
        text = write_data(shape, rich_data())
        result = read_data(shape, text)
        clear(result)
        self.assertEqual(exactly(read_data(shape, text)), exactly(rich_data()))


def all_specs():
    """Specs of every sort for which data can be thrown by dice."""
    return list(specs()) + chance.specs() + dice_templates.specs()


class RandomSigns(unittest.TestCase):
    def test_texts_of_any_signs(self):
        dice = random.Random(61)
        for turn in range(1500):
            text = "".join(dice.choices(SIGNS + WORDS + ["\n"] * 20 + [" "] * 30, k=dice.randint(0, 12)))
            for form, read in (("shape", read_shape), ("data", lambda text: read_data(Shape([], {}), text))):
                self.assertEqual(outcome(read, text) is None, text == "", repr(text))
                lines = expected_texts.lines_of(form, text)
                if text and type(lines) is int:
                    self.assertEqual(outcome(read, text), ("InvalidText", lines))
            wanted = expected_texts.template_reading(([], {}), text)
            self.assertEqual(outcome(read_template, Shape([], {}), text), None if wanted[0] == "told" else wanted)


if __name__ == "__main__":
    unittest.main()
