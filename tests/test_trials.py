"""Point 608, with points 601 to 604: needs, their trials, and that nothing smaller works."""

import itertools
import random
import unittest

from samepage.codings.coding import coded, coding, is_smaller
from samepage.codings.trials import needs, trial
from samepage.errors import NoNeed, SamepageError
from samepage.marks.filling import fill
from samepage.marks.marked import mark_step, read_row, state_after
from samepage.pages.machine import START, step
from tests.common import BEGINNINGS, CHARACTERS, RAW_NAMES, REFERENCES
from tests.model import expected_states, model_read
from tests.test_coding import CLOSED_PLACES, OPEN_PLACES, SIGNS, open_states
from tests.test_filling import ROWS

# The characters of point 602.
CODED = {"text": ["&", "<"], "double": ["\"", "&"], "single": ["&", "'"], "bare": ["\n", " ", "&", ">"], "equals": ["\n", " ", "&", ">"]}

# Rows behind the hole: with and without other holes, and with what ends the place or goes on with it.
BEHIND = [list(row) for row in ["", "b", ">", "\"", "'", " ", "=", "<b>", "-->", "--", "lt;", ";", "10;", "&lt;", "&#34;\">", "</b>x", " c=d>"]]
BEHIND += [["x", 1], [1, "x", 1, ">"], [" ", "c", "=", 1, ">", 1], [1, "\"", ">", 1]]


class NeedsTest(unittest.TestCase):
    def check(self, state, *wanted):
        self.assertEqual(needs(state), list(wanted))

    def test_nothing_pending(self):
        self.check(START, "&", "<")
        for element in ["-"] + RAW_NAMES:
            self.check(("bare", element, ""), "\n", " ", "&", ">")
            self.check(("double", element, ""), "\"", "&")
            self.check(("single", element, ""), "&", "'")

    def test_something_pending(self):
        for pending in ["<", "</", "<!", "<!-"] + BEGINNINGS:
            self.check(("text", "", pending), "", "&", "<")
        for element in ["-"] + RAW_NAMES:
            for pending in BEGINNINGS:
                self.check(("bare", element, pending), "", "\n", " ", "&", ">")
                self.check(("double", element, pending), "", "\"", "&")
                self.check(("single", element, pending), "", "&", "'")

    def test_behind_an_equals_sign(self):
        for element in ["-"] + RAW_NAMES:
            self.check(("equals", element, ""), "", "\n", " ", "&", ">")

    def test_closed_places(self):
        for state in expected_states():
            if state[0] in CLOSED_PLACES + ["raw"]:
                self.check(state)

    def test_they_are_what_the_coding_has(self):
        for state in open_states():
            prefix, images = coding("text", state)
            self.check(state, *sorted(([""] if prefix else []) + [char for char, _ in images]))

    def test_answers_are_new(self):
        needs(START).append("changed")
        self.check(START, "&", "<")


class TrialTest(unittest.TestCase):
    def test_characters(self):
        for state in open_states():
            for need in CODED[state[0]]:
                wanted = {"<": "<b", "&": "&lt;"}.get(need, need)
                self.assertEqual(trial(state, need), wanted)

    def test_pending_markup(self):
        for pending, wanted in [("<", "b"), ("</", "b"), ("<!", "--"), ("<!-", "-")]:
            self.assertEqual(trial(("text", "", pending), ""), wanted)

    def test_behind_an_equals_sign(self):
        for element in ["-"] + RAW_NAMES:
            self.assertEqual(trial(("equals", element, ""), ""), "\"")

    def test_some_beginnings(self):
        for pending, wanted in [
            ("&", ";"), ("&l", "t;"), ("&lt", ";"), ("&g", "t;"), ("&gt", ";"), ("&a", "mp;"), ("&am", "p;"), ("&amp", ";"),
            ("&#", "10;"), ("&#0", "10;"), ("&#1", "0;"), ("&#3", "2;"), ("&#9", "0;"), ("&#4", "0;"), ("&#03", "2;"), ("&#10", ";"),
            ("&#11", "0;"), ("&#12", "0;"), ("&#32", ";"), ("&#126", ";"), ("&#034", ";"), ("&#01", "0;"), ("&#010", ";"), ("&#06", "0;"),
        ]:
            self.assertIn(pending, BEGINNINGS)
            for state in [("text", "", pending), ("bare", "-", pending), ("double", "style", pending), ("single", "-", pending)]:
                self.assertEqual(trial(state, ""), wanted)

    def test_each_beginning_against_all_references(self):
        for pending in BEGINNINGS:
            ends = [text[len(pending):] for text in REFERENCES if text.startswith(pending)]
            wanted = min(ends, key=lambda text: (len(text), text))
            for place, element in [("text", ""), ("bare", "-"), ("double", "-"), ("single", "script")]:
                self.assertEqual(trial((place, element, pending), ""), wanted)

    def test_each_beginning_against_a_search_over_all_texts(self):
        """Every text up to two characters; of three, those of the signs of references."""
        signs = sorted("#;0123456789aglmpt")
        texts = CHARACTERS + ["".join(row) for row in itertools.product(CHARACTERS, repeat=2)]
        texts += ["".join(row) for row in itertools.product(signs, repeat=3)]
        for pending in BEGINNINGS:
            wanted = next(text for text in texts if pending + text in REFERENCES)
            self.assertEqual(trial(("double", "-", pending), ""), wanted)


class NoNeedTest(unittest.TestCase):
    def fails(self, state, need):
        with self.assertRaises(SamepageError) as caught:
            trial(state, need)
        self.assertEqual((type(caught.exception), caught.exception.at), (NoNeed, 0))

    def test_characters_without_an_image(self):
        for state in [START, ("text", "", "<"), ("bare", "-", ""), ("double", "-", "&"), ("single", "-", ""), ("equals", "-", "")]:
            for char in CHARACTERS:
                if char not in CODED[state[0]]:
                    self.fails(state, char)

    def test_the_prefix_where_it_is_empty(self):
        for state in [START, ("bare", "-", ""), ("double", "-", ""), ("single", "script", "")]:
            self.fails(state, "")

    def test_longer_texts(self):
        for state in [START, ("text", "", "<"), ("bare", "-", "&"), ("equals", "-", "")]:
            for need in ["<b", "&lt;", "&;", "\n ", "<<", "&<", "&&", "b", "--"]:
                self.fails(state, need)

    def test_closed_places(self):
        for state in expected_states():
            if state[0] not in OPEN_PLACES:
                for need in ["", "<", "&", "\"", "'", " ", "\n", ">", "-", "-->", "b"]:
                    self.fails(state, need)


class NothingSmallerTest(unittest.TestCase):
    def test_each_need_of_each_state(self):
        """With the trial as its datum and a coding without the need, the page reads to other tokens."""
        rng = random.Random(17)
        count = 0
        for state in open_states():
            choices = [behind for behind in BEHIND if is_open_at_marks(ROWS[state] + [0] + behind)]
            for need in needs(state):
                datum = trial(state, need)
                for behind in [BEHIND[0], BEHIND[1]] + rng.sample(choices, 5):
                    texts = [datum, rng.choice(["", "x", "\"", "<b>", "&lt;", "' >"])]
                    row = ROWS[state] + [0] + behind
                    self.assertNotEqual(
                        model_read(page_of(row, texts, without(coding("text", state), need))), fill(read_row(row), texts), (row, texts))
                    self.assertEqual(model_read(page_of(row, texts, coding("text", state))), fill(read_row(row), texts))
                    count += 1
        self.assertGreater(count, 5000)

    def test_whatever_is_behind(self):
        """Each row of up to three signs behind one state of each place, with something pending and with nothing."""
        states = [START, ("text", "", "<"), ("text", "", "</"), ("text", "", "<!"), ("text", "", "<!-"), ("text", "", "&l")]
        states += [(place, "-", pending) for place in ("bare", "double", "single") for pending in ("", "&#3")] + [("equals", "-", "")]
        rows = ["".join(row) for size in range(4) for row in itertools.product("<>\"' &;-b=", repeat=size)]
        for state in states:
            for need in needs(state):
                datum = trial(state, need)
                smaller = without(coding("text", state), need)
                for behind in rows:
                    row = ROWS[state] + [0] + list(behind)
                    self.assertNotEqual(model_read(page_of(row, [datum], smaller)), fill(read_row(row), [datum]), (row, need))

    def test_what_lacks_a_need_is_smaller(self):
        for state in open_states():
            for need in needs(state):
                self.assertIs(is_smaller(without(coding("text", state), need), coding("text", state)), True)

    def test_some_texts_need_nothing(self):
        """Nothing else than the trials shows a need: the same pages, with other texts, may read as they should."""
        for state, need, datum in [(START, "<", "< "), (START, "&", "& "), (("text", "", "<"), "", ">"), (("equals", "-", ""), "", "x")]:
            row = ROWS[state] + [0]
            page = page_of(row, [datum], without(coding("text", state), need))
            self.assertEqual(model_read(page), fill(read_row(row), [datum]))

    def test_signs_that_need_nothing(self):
        """A character without an image stands for itself, whatever is behind it."""
        for state in open_states():
            for char in SIGNS:
                if char not in needs(state):
                    self.assertEqual(coded(coding("text", state), char)[-1], char)


def without(full, need):
    """The coding without the need."""
    prefix, images = full
    return "" if need == "" else prefix, [(char, image) for char, image in images if char != need]


def is_open_at_marks(row):
    """Return True if any text can be shown in the place of each mark."""
    return all(state_after(row[:at])[0] in OPEN_PLACES for at, item in enumerate(row) if isinstance(item, int))


def page_of(row, texts, first):
    """The page of a row, where the mark 0 is written by the given coding, and the others by their own."""
    state = START
    page = ""
    for item in row:
        if item == 0:
            page += coded(first, texts[0])
        elif isinstance(item, int):
            page += coded(coding("text", state), texts[item])
        else:
            page += item
        state = (mark_step(state, item) if isinstance(item, int) else step(state, item))[0]
    return page


if __name__ == "__main__":
    unittest.main()
