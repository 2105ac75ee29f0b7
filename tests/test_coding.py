"""Points 601 to 604: codings, coded texts, and codings that are smaller."""

import copy
import itertools
import random
import unittest

from samepage.codings.coding import coded, coding, is_admissible, is_smaller
from samepage.errors import NotAdmissible, SamepageError
from tests.common import BEGINNINGS, CHARACTERS, RAW_NAMES, REFERENCES
from tests.model import expected_states, model_mark_step, model_step

# Point 602, with the least reference of each character.
IMAGES = {
    "text": [("&", "&#38;"), ("<", "&lt;")],
    "double": [("\"", "&#34;"), ("&", "&#38;")],
    "single": [("&", "&#38;"), ("'", "&#39;")],
    "bare": [("\n", "&#10;"), (" ", "&#32;"), ("&", "&#38;"), (">", "&gt;")],
    "equals": [("\n", "&#10;"), (" ", "&#32;"), ("&", "&#38;"), (">", "&gt;")],
    "raw": [],
}
OPEN_PLACES = ["text", "double", "single", "bare", "equals"]
CLOSED_PLACES = ["tag", "gap", "name", "comment"]

# Signs that mean something somewhere, and their short rows.
SIGNS = "<>&\"' \n-!/;#al=3"


def open_states():
    return [state for state in expected_states() if state[0] in OPEN_PLACES]


def wanted_coding(state):
    """The coding of an admissible hole, by points 602 and 603."""
    place, _, pending = state
    has_prefix = place == "equals" or place != "raw" and pending != ""
    return "&;" if has_prefix else "", IMAGES[place]


class AdmissibleTest(unittest.TestCase):
    def test_each_state(self):
        places = set()
        for state in expected_states():
            places.add(state[0])
            self.assertIs(is_admissible("text", state), state[0] in OPEN_PLACES)
            self.assertIs(is_admissible("data", state), state[0] in OPEN_PLACES or state[0] == "raw")
        self.assertEqual(sorted(places), sorted(OPEN_PLACES + CLOSED_PLACES + ["raw"]))


class CodingTest(unittest.TestCase):
    def check(self, state, prefix):
        for kind in ("text", "data"):
            self.assertEqual(coding(kind, state), (prefix, IMAGES[state[0]]))

    def test_nothing_pending(self):
        for place in ("bare", "double", "single"):
            for element in ["-"] + RAW_NAMES:
                self.check((place, element, ""), "")
        self.check(("text", "", ""), "")

    def test_something_pending(self):
        for pending in ["<", "</", "<!", "<!-"] + BEGINNINGS:
            self.check(("text", "", pending), "&;")
        for place in ("bare", "double", "single"):
            for element in ["-"] + RAW_NAMES:
                for pending in BEGINNINGS:
                    self.check((place, element, pending), "&;")

    def test_behind_an_equals_sign(self):
        for element in ["-"] + RAW_NAMES:
            self.check(("equals", element, ""), "&;")

    def test_raw_texts(self):
        for element in RAW_NAMES:
            goal = "</" + element
            for size in range(len(goal) + 1):
                self.assertEqual(coding("data", ("raw", element, goal[:size])), ("", []))

    def test_every_state(self):
        for state in expected_states():
            for kind in ("text", "data"):
                if is_admissible(kind, state):
                    found = coding(kind, state)
                    self.assertEqual(found, wanted_coding(state))
                    self.assertIs(type(found), tuple)
                    self.assertIs(type(found[1]), list)
                    self.assertTrue(all(type(pair) is tuple for pair in found[1]))

    def test_images_are_least_references_in_ascending_order(self):
        for state in open_states():
            _, images = coding("text", state)
            self.assertEqual([char for char, _ in images], sorted({char for char, _ in images}))
            for char, image in images:
                writings = [text for text, meant in REFERENCES.items() if meant == char]
                self.assertEqual(image, min(writings, key=lambda text: (len(text), text)))

    def test_not_admissible(self):
        for state in expected_states():
            for kind in ("text", "data"):
                if state[0] in CLOSED_PLACES or state[0] == "raw" and kind == "text":
                    with self.assertRaises(SamepageError) as caught:
                        coding(kind, state)
                    self.assertEqual((type(caught.exception), caught.exception.at), (NotAdmissible, 0))

    def test_answers_are_new(self):
        for state in (("text", "", "<"), ("equals", "-", ""), ("bare", "-", ""), ("double", "-", ""), ("single", "-", "")):
            coding("text", state)[1].append("changed")
            coding("data", state)[1].clear()
            self.assertEqual(coding("text", state), wanted_coding(state))
        coding("data", ("raw", "style", ""))[1].append(1)
        self.assertEqual(coding("data", ("raw", "style", "")), ("", []))


class CodedTest(unittest.TestCase):
    def test_the_empty_text(self):
        self.assertEqual(coded(("", []), ""), "")
        self.assertEqual(coded(("&;", []), ""), "&;")
        self.assertEqual(coded(("&;", [("a", "&#97;")]), ""), "&;")

    def test_prefixes_and_images(self):
        self.assertEqual(coded(("", []), "<a&>"), "<a&>")
        self.assertEqual(coded(("&;", []), "<a&>"), "&;<a&>")
        self.assertEqual(coded(("&;", IMAGES["text"]), "<a&<>&"), "&;&lt;a&#38;&lt;>&#38;")
        self.assertEqual(coded(("", IMAGES["bare"]), "a > b\n&\"'<"), "a&#32;&gt;&#32;b&#10;&#38;\"'<")
        self.assertEqual(coded(("", IMAGES["double"]), "\"'<>&\n"), "&#34;'<>&#38;\n")
        self.assertEqual(coded(("", IMAGES["single"]), "\"'<>& "), "\"&#39;<>&#38; ")
        self.assertEqual(coded(("", [("a", "&#097;"), ("b", "&#98;")]), "abcab"), "&#097;&#98;c&#097;&#98;")

    def test_images_are_not_coded_again(self):
        self.assertEqual(coded(("", [("#", "&#35;"), ("&", "&#38;"), (";", "&#59;")]), "&#;"), "&#38;&#35;&#59;")

    def test_each_character(self):
        for place, images in IMAGES.items():
            for char in CHARACTERS:
                self.assertEqual(coded(("", images), char), dict(images).get(char, char))

    def test_what_a_state_reads(self):
        """The reader goes on behind a coded text as behind a mark, and reads the text in the mark's place."""
        texts = ["".join(row) for size in range(3) for row in itertools.product(SIGNS, repeat=size)]
        texts += ["<b>", "&lt;", "<!--", "-->", "&#34;", "</b", "&;x", "\"'>"] + CHARACTERS
        rng = random.Random(13)
        states = {(place, bool(pending)): [] for place in OPEN_PLACES for pending in (False, True)}
        for state in open_states():
            states[(state[0], state[2] != "")].append(state)
        for group in states.values():
            for state in rng.sample(group, min(len(group), 6)):
                found = coding("text", state)
                for text in texts:
                    self.check_read(state, coded(found, text), text)

    def test_every_open_state_reads_some_texts(self):
        for state in open_states():
            found = coding("text", state)
            for text in ["", "b", ";", "t;", "10;", "<b>", "--", "-", "\"", "' x", "\n>", "&amp;"]:
                self.check_read(state, coded(found, text), text)

    def check_read(self, state, page, text):
        after, wanted = model_mark_step(state, 0)
        *front, (kind, _) = wanted
        events = []
        for char in page:
            state, more = model_step(state, char)
            events += more
        self.assertEqual((state, events), (after, front + [(kind, char) for char in text]))

    def test_notations_in_raw_texts(self):
        for element in RAW_NAMES:
            for size in range(len(element) + 3):
                for notation in ["null", "true", "false", "0", "-1", "\"</script>\"".replace("<", "\\u003c"), "[]", "{\"t\":\"ype/\"}"]:
                    state = ("raw", element, ("</" + element)[:size])
                    self.check_read(state, coded(coding("data", state), notation), notation)


class SmallerTest(unittest.TestCase):
    def smaller(self, first, second):
        self.assertIs(is_smaller(first, second), True)
        self.assertIs(is_smaller(second, first), False)

    def neither(self, first, second):
        self.assertIs(is_smaller(first, second), False)
        self.assertIs(is_smaller(second, first), False)

    def test_the_same_coding(self):
        for images in IMAGES.values():
            for prefix in ("", "&;"):
                self.neither((prefix, images), (prefix, list(images)))

    def test_a_shorter_prefix(self):
        for images in IMAGES.values():
            self.smaller(("", images), ("&;", images))

    def test_a_shorter_image(self):
        self.smaller(("", [("&", "&#38;")]), ("", [("&", "&#038;")]))
        self.smaller(("&;", [("&", "&#38;"), ("<", "&lt;")]), ("&;", [("&", "&#38;"), ("<", "&#60;")]))
        self.smaller(("", [("&", "&#38;"), ("<", "&lt;")]), ("", [("&", "&#038;"), ("<", "&#060;")]))

    def test_other_images_of_the_same_length(self):
        self.neither(("", [("&", "&#38;")]), ("", [("&", "&amp;")]))
        self.smaller(("", [("&", "&amp;"), ("<", "&lt;")]), ("", [("&", "&#38;"), ("<", "&#60;")]))

    def test_a_character_that_only_one_has(self):
        self.smaller(("", []), ("", [("<", "&lt;")]))
        self.smaller(("", [("&", "&#38;")]), ("", [("&", "&#38;"), ("<", "&lt;")]))
        self.smaller(("", [("<", "&lt;")]), ("", [("&", "&#38;"), ("<", "&lt;")]))
        self.neither(("", [("&", "&#38;")]), ("", [("<", "&lt;")]))

    def test_longer_beside_shorter(self):
        self.neither(("&;", []), ("", [("<", "&lt;")]))
        self.neither(("&;", [("<", "&lt;")]), ("", [("<", "&#60;")]))
        self.neither(("", [("<", "&#60;"), (">", "&gt;")]), ("", [("<", "&lt;"), (">", "&#62;")]))
        self.neither(("", [("<", "&lt;")]), ("", [(">", "&gt;")]))
        self.neither(("", [("<", "&#60;")]), ("&;", [("<", "&lt;")]))

    def test_the_codings_of_places(self):
        self.smaller(("", IMAGES["text"]), ("&;", IMAGES["text"]))
        self.smaller(("", []), ("", IMAGES["bare"]))
        self.neither(("", IMAGES["single"]), ("", IMAGES["double"]))

    def test_many_codings(self):
        """Against the words of the point, over all characters."""
        choices = [[None, "&lt;", "&#60;", "&#060;"], [None, "&#38;", "&amp;", "&#038;"], [None, "&#39;", "&#039;"]]
        codings = [
            (prefix, [(char, image) for char, image in zip("<&'", row) if image is not None])
            for prefix in ("", "&;") for row in itertools.product(*choices)
        ]
        for first, second in itertools.product(codings, repeat=2):
            one = [len(first[0])] + [len(dict(first[1]).get(char, char)) for char in CHARACTERS]
            two = [len(second[0])] + [len(dict(second[1]).get(char, char)) for char in CHARACTERS]
            wanted = all(a <= b for a, b in zip(one, two)) and one != two
            self.assertIs(is_smaller(first, second), wanted, (first, second))

    def test_arguments_stay(self):
        first, second = ("&;", list(IMAGES["text"])), ("", list(IMAGES["bare"]))
        kept = copy.deepcopy((first, second))
        is_smaller(first, second)
        coded(first, "<x>")
        self.assertEqual((first, second), kept)


if __name__ == "__main__":
    unittest.main()
