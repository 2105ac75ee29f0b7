"""Points 404 to 407: records, their first misfit, their notes, and the datum of a path."""

import copy
import itertools
import random
import unittest

from samepage.data.notation import notation
from samepage.data.records import datum, misfit, note, read_note
from samepage.errors import BadNotation, Misfit, SamepageError, UnknownName
from samepage.templates.shapes import parse_shape
from tests.common import CHARACTERS
from tests.model_data import model_notation
from tests.templates import random_shape
from tests.test_values import VALUES, in_lists, in_maps, mixed

SHAPE = parse_shape("t text, p truth, d data, rows [n text, inner [x truth]], more []")


def record(**changes):
    """A record of the shape, with other fields where they are given."""
    found = {"t": "a", "p": True, "d": None, "rows": [{"n": "", "inner": [{"x": False}]}, {"n": "b", "inner": []}], "more": [{}]}
    found.update(changes)
    return found


def without(one, *names):
    return {key: value for key, value in one.items() if key not in names}


def random_record(rng, shape):
    return {name: random_field(rng, kind) for name, kind in shape}


def random_field(rng, kind):
    if isinstance(kind, list):
        return [random_record(rng, kind) for _ in range(rng.randrange(3))]
    if kind == "text":
        return rng.choice(["", "a", "<b>\n", "\"\\"])
    return rng.choice([True, False]) if kind == "truth" else rng.choice(VALUES)


# What no record has anywhere.
NO_VALUES = [(), ("a",), 10 ** 40, chr(37), "\t", {1: 2}, {chr(37): 0}, [(1,)], in_lists(13), in_maps(13), mixed(13), [0] * 500]


class MisfitTest(unittest.TestCase):
    def fits(self, one, shape=SHAPE):
        self.assertIsNone(misfit(one, shape))

    def check(self, path, one, shape=SHAPE):
        self.assertEqual(misfit(one, shape), path)

    def test_records(self):
        self.fits(record())
        self.fits({}, [])
        self.fits({"a": []}, parse_shape("a [b text]"))
        self.fits({"a": [{}, {}]}, parse_shape("a []"))

    def test_the_order_of_keys_plays_no_part(self):
        for keys in itertools.permutations(record()):
            one = {key: record()[key] for key in keys}
            self.fits(one)
            self.check(["p"], {**one, "p": 1, "more": 0})

    def test_texts(self):
        for text in ["", "a", "a" * 200, "\n" * 200, "<b>"] + CHARACTERS:
            self.fits(record(t=text))
        for value in ["a" * 201, "a" * 400, chr(37), "a\tb", chr(228), None, True, 0, [], ["a"], {}, ("a",)]:
            self.check(["t"], record(t=value))

    def test_truths(self):
        self.fits(record(p=True))
        self.fits(record(p=False))
        for value in [0, 1, None, "", "true", [], [True], {}, (True,), -1]:
            self.check(["p"], record(p=value))

    def test_data(self):
        for value in VALUES + [in_lists(12), in_maps(12), mixed(12), [0] * 499, "a" * 5000, 10 ** 40 - 1]:
            self.fits(record(d=value))
        for value in NO_VALUES:
            self.check(["d"], record(d=value))

    def test_lists(self):
        for value in ([], [{}], [{}] * 100):
            self.fits(record(more=value))
        for value in ([{}] * 101, [{}] * 500, None, {}, "", 0, True, (), ({},), "abc"):
            self.check(["more"], record(more=value))
        # A list that is too long is a misfit before its elements are looked at.
        self.check(["more"], record(more=[0] * 101))

    def test_elements(self):
        for value in (None, 0, "", [], [{}], (), True, "a"):
            self.check(["more", 0], record(more=[value]))
            self.check(["more", 2], record(more=[{}, {}, value, value]))
        self.check(["more", 99], record(more=[{}] * 99 + [0]))

    def test_misfits_in_lists(self):
        self.check(["rows", 0, "n"], record(rows=[{}]))
        self.check(["rows", 0, "inner"], record(rows=[{"n": ""}]))
        self.check(["rows", 1, "n"], record(rows=[{"n": "", "inner": []}, {"n": 0, "inner": 0}]))
        self.check(["rows", 0, "inner", 1], record(rows=[{"n": "", "inner": [{"x": True}, []]}]))
        self.check(["rows", 0, "inner", 1, "x"], record(rows=[{"n": "", "inner": [{"x": True}, {"x": 1}]}]))
        self.check(["rows", 0, "inner", 0, "y"], record(rows=[{"n": "", "inner": [{"x": True, "y": 0}]}]))
        self.check(["rows", 0, "m"], record(rows=[{"n": "", "inner": [], "m": 0}]))
        self.check(["more", 3, "z"], record(more=[{}, {}, {}, {"z": 1}]))

    def test_deep_lists(self):
        shape = parse_shape("a [b [c [d [e [f truth]]]]]")
        one = {"a": [{"b": []}, {"b": [{"c": [{"d": [{"e": [{"f": True}]}]}]}]}]}
        self.fits(one, shape)
        one["a"][1]["b"][0]["c"][0]["d"][0]["e"].append({"f": 0})
        self.check(["a", 1, "b", 0, "c", 0, "d", 0, "e", 1, "f"], one, shape)

    def test_missing_fields(self):
        for name in record():
            self.check([name], without(record(), name))
        self.check(["t"], {})
        self.check(["p"], without(record(), "p", "d", "more"))
        self.check(["a"], {"b": ""}, parse_shape("a text"))

    def test_the_first_of_two(self):
        wrong = {"t": 0, "p": 0, "d": (), "rows": 0, "more": 0}
        for one, other in itertools.combinations(record(), 2):
            for last in (record(**{other: wrong[other]}), without(record(), other)):
                self.check([other], last)
                self.check([one], {**last, one: wrong[one]})
                self.check([one], without(last, one))
        self.check(["rows", 1, "n"], record(rows=[{"n": "", "inner": []}, {"n": 1, "inner": []}], more=0))
        self.check(["rows", 0, "inner", 0], record(rows=[{"n": "", "inner": [0]}, 0]))
        self.check(["rows", 0, "a"], record(rows=[{"n": "", "inner": [], "a": 0}, 0], more=0))

    def test_the_order_is_that_of_the_shape(self):
        shape = parse_shape("z text, a text, m text")
        self.check(["z"], {}, shape)
        self.check(["a"], {"z": ""}, shape)
        self.check(["z"], {"a": 0, "m": 0, "z": 0}, shape)

    def test_keys_that_are_too_many(self):
        self.check(["a"], record(a=0))
        self.check([""], record(**{"": 0, "a": 0}))
        self.check(["a"], {"b": 0, "a": 0, "c": 0}, [])
        self.check(["B"], {"b": 0, "a": 0, "B": 0}, [])
        self.check(["\n"], {"b": 0, " ": 0, "\n": 0}, [])
        self.check(["aa"], {"ab": 0, "b": 0, "aa": 0, "c": ""}, parse_shape("c text"))
        self.check(["10"], {"9": 0, "10": 0}, [])

    def test_missing_and_wrong_fields_before_keys_that_are_too_many(self):
        self.check(["more"], {**without(record(), "more"), "a": 0})
        self.check(["more", 0], record(more=[0], a=0))
        self.check(["t"], record(t=0, a=0))

    def test_random_records(self):
        rng = random.Random(8)
        for _ in range(500):
            shape = random_shape(rng)
            one = random_record(rng, shape)
            self.fits(one, shape)
            for name, _ in shape:
                self.check([name], without(one, name), shape)
                self.check([name], {**one, name: ()}, shape)
            self.check(["A"], {**one, "A": 0}, shape)


class NoteTest(unittest.TestCase):
    def check(self, one, shape, text):
        self.assertEqual(note(one, shape), text)
        found = read_note(text, shape)
        self.assertEqual(found, one)
        self.assertEqual(note(found, shape), text)

    def fails(self, error, at, text, shape=SHAPE):
        with self.assertRaises(SamepageError) as caught:
            read_note(text, shape)
        self.assertEqual((type(caught.exception), caught.exception.at), (error, at), text)

    def test_examples(self):
        self.check({}, [], "{}")
        self.check({"a": "<"}, parse_shape("a text"), "{\"a\":\"\\u003c\"}")
        self.check({"b": True, "a": [{}, {}]}, parse_shape("b truth, a []"), "{\"a\":[{},{}],\"b\":true}")
        self.check({"d": [1, {"z": None, "y": "\n"}]}, parse_shape("d data"), "{\"d\":[1,{\"y\":\"\\n\",\"z\":null}]}")
        self.check(record(), SHAPE, "{\"d\":null,\"more\":[{}],\"p\":true,\"rows\":["
                   "{\"inner\":[{\"x\":false}],\"n\":\"\"},{\"inner\":[],\"n\":\"b\"}],\"t\":\"a\"}")

    def test_it_is_the_notation(self):
        rng = random.Random(9)
        for _ in range(500):
            shape = random_shape(rng)
            one = random_record(rng, shape)
            self.check(one, shape, notation(one))
            self.assertEqual(notation(one), model_notation(one))

    def test_truths_are_read_as_truths(self):
        self.assertIs(read_note("{\"p\":true}", parse_shape("p truth"))["p"], True)
        self.assertIs(read_note("{\"d\":1}", parse_shape("d data"))["d"], 1)
        self.fails(Misfit, 0, "{\"p\":1}", parse_shape("p truth"))

    def test_notes_that_are_nested_deep(self):
        one = {"d": in_lists(12)}
        shape = parse_shape("d data")
        for name in "edcba":
            self.check(one, shape, notation(one))
            one, shape = {name: [one, one]}, [(name, shape)]
        for value in (in_maps(12), mixed(12)):
            self.check({"d": value}, parse_shape("d data"), notation({"d": value}))

    def test_long_notes(self):
        shape = parse_shape("rows [a text, b text]")
        one = {"rows": [{"a": "<" * 200, "b": "\n" * 200}] * 100}
        self.check(one, shape, notation(one))

    def test_texts_that_are_no_notations(self):
        for text, at in (("", 0), ("{", 1), ("{}x", 2), ("x", 0), ("{\"t\":01}", 6), ("{\"b\":1,\"a\":2}", 7), (" {}", 0)):
            self.fails(BadNotation, at, text)
        self.assertEqual(read_note("{\"d\":" + "[" * 12 + "]" * 12 + "}", parse_shape("d data")), {"d": in_lists(11, [])})
        self.fails(BadNotation, 40, "[" * 41 + "]" * 41)
        self.fails(BadNotation, 44, "{\"d\":" + "[" * 40 + "]" * 40 + "}", parse_shape("d data"))
        self.fails(Misfit, 0, "[" * 40 + "]" * 40)

    def test_notations_that_are_no_records(self):
        for text in ("null", "true", "1", "\"a\"", "[]", "[{}]", "{}", "{\"t\":\"\"}"):
            self.fails(Misfit, 0, text)
        for text in ("null", "[]", "[{}]", "{\"a\":1}"):
            self.fails(Misfit, 0, text, [])
        for changes in ({"t": 0}, {"p": 1}, {"rows": 0}, {"rows": [0]}, {"rows": [{"n": ""}]}, {"z": 0}, {"more": [{}] * 101},
                        {"t": "a" * 201}):
            self.fails(Misfit, 0, notation(record(**changes)))

    def test_data_that_breaks_a_bound(self):
        for value in (10 ** 40, -10 ** 40, in_lists(13), in_maps(13), mixed(13), [0] * 500, [{"a": 10 ** 50}]):
            self.fails(Misfit, 0, notation(record(d=value)))
        for value in (10 ** 40 - 1, in_lists(12), [0] * 499):
            self.check(record(d=value), SHAPE, notation(record(d=value)))

    def test_bad_notation_before_misfit(self):
        self.fails(BadNotation, 7, "{\"a\":1,", parse_shape("b text"))
        self.fails(BadNotation, 7, "{\"z\":1,\"a\":1}", parse_shape("b text"))


class DatumTest(unittest.TestCase):
    RECORDS = {
        "": {"t": "top", "rows": [{"n": "x"}], "p": True}, "row": {"t": "in a row", "d": {"a": [1, None]}, "q": False},
        "inner": {"t": "inside", "n": 0},
    }

    def check(self, path, value):
        found = datum(self.RECORDS, path)
        self.assertEqual(found, value)
        self.assertIs(type(found), type(value))

    def fails(self, path, records=None):
        with self.assertRaises(UnknownName) as caught:
            datum(self.RECORDS if records is None else records, path)
        self.assertEqual(caught.exception.at, 0)

    def test_paths(self):
        self.check(("", "t"), "top")
        self.check(("row", "t"), "in a row")
        self.check(("inner", "t"), "inside")
        self.check(("", "p"), True)
        self.check(("row", "q"), False)
        self.check(("inner", "n"), 0)
        self.check(("row", "d"), {"a": [1, None]})
        self.check(("", "rows"), [{"n": "x"}])

    def test_no_such_variable(self):
        for variable in ("r", "rows", "t", "Row", " "):
            self.fails((variable, "t"))
        self.fails(("", "t"), {})
        self.fails(("", "t"), {"row": {"t": ""}})

    def test_no_such_field(self):
        for path in (("", "n"), ("", "d"), ("row", "p"), ("row", "rows"), ("inner", "d"), ("", ""), ("row", "")):
            self.fails(path)
        self.fails(("", "t"), {"": {}})

    def test_values_that_are_not_there_are_none(self):
        self.assertIsNone(datum({"": {"d": None}}, ("", "d")))


class AnswersTest(unittest.TestCase):
    def test_the_datum_is_new(self):
        records = {"": {"d": {"a": [1, {"b": []}]}, "rows": [{"n": "x"}]}}
        kept = copy.deepcopy(records)
        value = datum(records, ("", "d"))
        value["a"][1]["b"].append(1)
        value["a"].append(2)
        value["c"] = 3
        rows = datum(records, ("", "rows"))
        rows[0]["n"] = "y"
        rows.append({})
        self.assertEqual(records, kept)
        self.assertEqual(datum(records, ("", "d")), kept[""]["d"])

    def test_arguments_and_later_answers_stay(self):
        one, shape = record(rows=[{"n": "x", "inner": [{"x": 0}]}]), copy.deepcopy(SHAPE)
        kept = copy.deepcopy((one, shape))
        path = misfit(one, shape)
        path.append("changed")
        self.assertEqual(misfit(one, shape), ["rows", 0, "inner", 0, "x"])
        self.assertEqual((one, shape), kept)
        text = note(record(), shape)
        found = read_note(text, shape)
        found["rows"][0]["inner"].append(0)
        found["rows"].clear()
        self.assertEqual(read_note(text, shape), record())
        self.assertEqual(shape, kept[1])

    def test_kinds_of_the_answer(self):
        self.assertIs(type(misfit({}, SHAPE)), list)
        self.assertIs(type(misfit(record(more=[0]), SHAPE)[1]), int)
        self.assertIs(type(read_note("{}", [])), dict)


if __name__ == "__main__":
    unittest.main()
