"""Points 103 to 113: the steps of the reader, place by place."""

import unittest

from samepage.pages.machine import START, finish, step
from tests.common import BEGINNINGS, CHARACTERS, DIGITS, LETTERS, REFERENCES
from tests.model import expected_states, model_finish, model_step

NAMES = ["-", "script", "style"]
VALUES = [("bare", "value"), ("double", "value"), ("single", "value")]


def walk(text, state=START):
    """The state behind a text, and all events on the way."""
    found = []
    for char in text:
        state, events = step(state, char)
        found += events
    return state, found


def events_of(kind, text):
    return [(kind, char) for char in text]


def others(taken):
    return [char for char in CHARACTERS if char not in taken]


class StepTest(unittest.TestCase):
    def check(self, state, chars, after, events):
        """Each of the characters leads to the same state with the same events."""
        for char in chars:
            with self.subTest(state=state, char=char):
                self.assertEqual(step(state, char), (after, events))

    def check_each(self, state, chars, expected):
        """Each of the characters leads to the pair that `expected` gives for it."""
        for char in chars:
            with self.subTest(state=state, char=char):
                self.assertEqual(step(state, char), expected(char))


class StartTest(StepTest):
    def test_start(self):
        self.assertEqual(START, ("text", "", ""))
        self.assertIs(type(START), tuple)

    def test_kinds_of_the_answer(self):
        answer = step(START, "a")
        self.assertIs(type(answer), tuple)
        self.assertIs(type(answer[0]), tuple)
        self.assertIs(type(answer[1]), list)
        self.assertIs(type(answer[1][0]), tuple)
        self.assertIs(type(finish(START)), list)


class TextTest(StepTest):
    def test_nothing_pending(self):
        self.check(START, "<", ("text", "", "<"), [])
        self.check(START, "&", ("text", "", "&"), [])
        self.check_each(START, others("<&"), lambda char: (START, [("text", char)]))

    def settled(self, pending, chars):
        """Pending is settled, and the character read again with nothing pending."""
        events = events_of("text", pending)
        for char in chars:
            with self.subTest(pending=pending, char=char):
                if char in "<&":
                    expected = (("text", "", char), events)
                else:
                    expected = (START, events + [("text", char)])
                self.assertEqual(step(("text", "", pending), char), expected)

    def test_less_pending(self):
        state = ("text", "", "<")
        self.check_each(state, [char for char in LETTERS if char != "s"], lambda char: (
            ("tag", "-", ""), [("tag", ""), ("name", char)]))
        self.check(state, "s", ("tag", "s", ""), [("tag", ""), ("name", "s")])
        self.check(state, "/", ("text", "", "</"), [])
        self.check(state, "!", ("text", "", "<!"), [])
        self.settled("<", others(LETTERS + "/!"))

    def test_less_and_slash_pending(self):
        state = ("text", "", "</")
        self.check_each(state, LETTERS, lambda char: (("tag", "-", ""), [("end", ""), ("name", char)]))
        self.settled("</", others(LETTERS))

    def test_less_and_exclamation_mark_pending(self):
        self.check(("text", "", "<!"), "-", ("text", "", "<!-"), [])
        self.settled("<!", others("-"))

    def test_less_exclamation_mark_and_hyphen_pending(self):
        self.check(("text", "", "<!-"), "-", ("comment", "", ""), [("comment", "")])
        self.settled("<!-", others("-"))

    def test_digits_and_hyphens_begin_no_tag(self):
        for char in DIGITS + "-":
            self.assertEqual(walk("<" + char), (START, [("text", "<"), ("text", char)]))
            self.assertEqual(walk("</" + char), (START, [("text", "<"), ("text", "/"), ("text", char)]))

    def test_beginning_pending(self):
        for pending in BEGINNINGS:
            for char in CHARACTERS:
                both = pending + char
                with self.subTest(pending=pending, char=char):
                    if both in REFERENCES:
                        expected = (START, events_of("text", REFERENCES[both]))
                        self.assertEqual(step(("text", "", pending), char), expected)
                    elif both in BEGINNINGS:
                        self.assertEqual(step(("text", "", pending), char), (("text", "", both), []))
                    else:
                        self.settled(pending, char)

    def test_the_empty_reference_emits_no_event(self):
        self.assertEqual(walk("&;"), (START, []))
        self.assertEqual(walk("a&;b"), (START, [("text", "a"), ("text", "b")]))

    def test_references(self):
        self.assertEqual(walk("&lt;b"), (START, [("text", "<"), ("text", "b")]))
        self.assertEqual(walk("&#60;b"), (START, [("text", "<"), ("text", "b")]))
        self.assertEqual(walk("&amp;lt;"), (START, events_of("text", "&lt;")))
        self.assertEqual(walk("&#038;#38;"), (START, events_of("text", "&#38;")))
        self.assertEqual(walk("&&lt;"), (START, events_of("text", "&<")))
        self.assertEqual(walk("&#&#1&#12&#120;"), (START, events_of("text", "&#&#1&#12x")))
        self.assertEqual(walk("&l<"), (("text", "", "<"), events_of("text", "&l")))
        self.assertEqual(walk("<&lt"), (("text", "", "&lt"), [("text", "<")]))

    def test_signs_that_break_each_other(self):
        self.assertEqual(walk("<<"), (("text", "", "<"), [("text", "<")]))
        self.assertEqual(walk("</<"), (("text", "", "<"), events_of("text", "</")))
        self.assertEqual(walk("<!<"), (("text", "", "<"), events_of("text", "<!")))
        self.assertEqual(walk("<!-<"), (("text", "", "<"), events_of("text", "<!-")))
        self.assertEqual(walk("<!&;--"), (START, events_of("text", "<!--")))


class TagTest(StepTest):
    def test_other_names(self):
        state = ("tag", "-", "")
        self.check_each(state, LETTERS + DIGITS + "-", lambda char: (state, [("name", char)]))
        self.check(state, " \n/", ("gap", "-", ""), [])
        self.check(state, ">", START, [("close", "")])
        taken = LETTERS + DIGITS + "- \n/>"
        self.check_each(state, others(taken), lambda char: (("name", "-", ""), [("attribute", char)]))

    def test_prefixes_of_script_and_style(self):
        goes_on = {
            "s": {"c": "sc", "t": "st"}, "sc": {"r": "scr"}, "scr": {"i": "scri"}, "scri": {"p": "scrip"},
            "scrip": {"t": "script"}, "script": {}, "st": {"y": "sty"}, "sty": {"l": "styl"}, "styl": {"e": "style"},
            "style": {},
        }
        for element, longer in goes_on.items():
            state = ("tag", element, "")
            for char in LETTERS + DIGITS + "-":
                self.check(state, char, ("tag", longer.get(char, "-"), ""), [("name", char)])

    def test_the_end_of_a_prefix(self):
        for element in ("s", "sc", "scr", "scri", "scrip", "st", "sty", "styl"):
            state = ("tag", element, "")
            self.check(state, " \n/", ("gap", "-", ""), [])
            self.check(state, ">", START, [("close", "")])
            self.check(state, "=", ("name", "-", ""), [("attribute", "=")])

    def test_the_end_of_script_and_style(self):
        for element in ("script", "style"):
            state = ("tag", element, "")
            self.check(state, " \n/", ("gap", element, ""), [])
            self.check(state, ">", ("raw", element, ""), [("close", "")])
            taken = LETTERS + DIGITS + "- \n/>"
            self.check_each(state, others(taken), lambda char: (("name", element, ""), [("attribute", char)]))

    def test_names_that_go_on(self):
        for page in ("<scripts>", "<style1>", "<script->", "<styles>", "<Script>", "<sCript>", "<STYLE>", "<scriptstyle>"):
            self.assertEqual(walk(page)[0], START, page)
        for name in ("script", "style"):
            self.assertEqual(walk("<" + name + ">")[0], ("raw", name, ""))
            self.assertEqual(walk("</" + name + ">")[0], START)

    def test_end_tags_follow_no_prefix(self):
        self.assertEqual(walk("</script"), (("tag", "-", ""), [("end", "")] + events_of("name", "script")))


class GapTest(StepTest):
    def test_each_element(self):
        for element in NAMES:
            state = ("gap", element, "")
            self.check(state, " \n/", state, [])
            after = START if element == "-" else ("raw", element, "")
            self.check(state, ">", after, [("close", "")])
            self.check_each(state, others(" \n/>"), lambda char: (("name", element, ""), [("attribute", char)]))


class NameTest(StepTest):
    def test_each_element(self):
        for element in NAMES:
            state = ("name", element, "")
            self.check(state, " \n", ("gap", element, ""), [])
            self.check(state, "/", ("gap", element, ""), [])
            after = START if element == "-" else ("raw", element, "")
            self.check(state, ">", after, [("close", "")])
            self.check(state, "=", ("equals", element, ""), [])
            self.check_each(state, others(" \n/>="), lambda char: (state, [("name", char)]))


class EqualsTest(StepTest):
    def test_each_element(self):
        for element in NAMES:
            state = ("equals", element, "")
            self.check(state, "\"", ("double", element, ""), [("value", "")])
            self.check(state, "'", ("single", element, ""), [("value", "")])
            self.check(state, " \n", ("gap", element, ""), [])
            after = START if element == "-" else ("raw", element, "")
            self.check(state, ">", after, [("close", "")])
            self.check(state, "&", ("bare", element, "&"), [("value", "")])
            self.check_each(state, others("\"' \n>&"), lambda char: (
                ("bare", element, ""), [("value", ""), ("value", char)]))


class ValueTest(StepTest):
    def ended(self, place, element, char):
        """The state and the events behind a character that ends a value, or None if it ends none."""
        if place == "bare" and char in " \n":
            return ("gap", element, ""), []
        if place == "bare" and char == ">":
            return (START if element == "-" else ("raw", element, "")), [("close", "")]
        if (place, char) in (("double", "\""), ("single", "'")):
            return ("gap", element, ""), []
        return None

    def alone(self, place, element, char):
        """What a character does with nothing pending."""
        ended = self.ended(place, element, char)
        if ended is not None:
            return ended
        if char == "&":
            return (place, element, "&"), []
        return (place, element, ""), [("value", char)]

    def test_nothing_pending(self):
        for place in ("bare", "double", "single"):
            for element in NAMES:
                state = (place, element, "")
                self.check_each(state, CHARACTERS, lambda char: self.alone(place, element, char))

    def test_beginning_pending(self):
        for place in ("bare", "double", "single"):
            for element in NAMES:
                for pending in BEGINNINGS:
                    self.check_pending(place, element, pending)

    def check_pending(self, place, element, pending):
        state = (place, element, pending)
        for char in CHARACTERS:
            both = pending + char
            if both in REFERENCES:
                expected = ((place, element, ""), events_of("value", REFERENCES[both]))
            elif both in BEGINNINGS:
                expected = ((place, element, both), [])
            else:
                after, events = self.alone(place, element, char)
                expected = (after, events_of("value", pending) + events)
            self.assertEqual(step(state, char), expected, (state, char))

    def test_signs_that_stay_in_a_value(self):
        self.assertEqual(walk("=/'\"<", ("bare", "-", "")), (("bare", "-", ""), events_of("value", "=/'\"<")))
        self.assertEqual(walk("> '\n=/", ("double", "-", "")), (("double", "-", ""), events_of("value", "> '\n=/")))
        self.assertEqual(walk("> \"\n=/", ("single", "-", "")), (("single", "-", ""), events_of("value", "> \"\n=/")))

    def test_a_reference_ends_no_value(self):
        for place in ("bare", "double", "single"):
            state = (place, "-", "")
            for text in ("&#34;", "&#39;", "&#32;", "&#10;", "&gt;"):
                self.assertEqual(walk(text, state), (state, [("value", REFERENCES[text])]))
            self.assertEqual(walk("&;", state), (state, []))


class CommentTest(StepTest):
    def test_nothing_pending(self):
        state = ("comment", "", "")
        self.check(state, "-", ("comment", "", "-"), [])
        self.check_each(state, others("-"), lambda char: (state, [("comment", char)]))

    def test_one_hyphen_pending(self):
        state = ("comment", "", "-")
        self.check(state, "-", ("comment", "", "--"), [])
        self.check_each(state, others("-"), lambda char: (
            ("comment", "", ""), [("comment", "-"), ("comment", char)]))

    def test_two_hyphens_pending(self):
        state = ("comment", "", "--")
        self.check(state, ">", START, [("close", "")])
        self.check(state, "-", state, [("comment", "-")])
        self.check_each(state, others("->"), lambda char: (
            ("comment", "", ""), [("comment", "-"), ("comment", "-"), ("comment", char)]))

    def test_whole_comments(self):
        self.assertEqual(walk("<!---->"), (START, [("comment", ""), ("close", "")]))
        self.assertEqual(walk("<!----->"), (START, [("comment", ""), ("comment", "-"), ("close", "")]))
        self.assertEqual(walk("<!-->"), (("comment", "", ""), [("comment", ""), ("comment", ">")]))
        self.assertEqual(walk("<!--->"), (("comment", "", ""), [("comment", "")] + events_of("comment", "->")))
        self.assertEqual(walk("<!--&lt;"), (("comment", "", ""), [("comment", "")] + events_of("comment", "&lt;")))


class RawTest(StepTest):
    def goals(self):
        return [("script", "</script"), ("style", "</style")]

    def test_nothing_pending(self):
        for element in ("script", "style"):
            state = ("raw", element, "")
            self.check(state, "<", ("raw", element, "<"), [])
            self.check_each(state, others("<"), lambda char: (state, [("raw", char)]))

    def test_a_part_of_the_goal_pending(self):
        for element, goal in self.goals():
            for size in range(1, len(goal)):
                state = ("raw", element, goal[:size])
                events = events_of("raw", goal[:size])
                self.check(state, goal[size], ("raw", element, goal[:size + 1]), [])
                self.check(state, "<", ("raw", element, "<"), events)
                self.check_each(state, others("<" + goal[size]), lambda char: (
                    ("raw", element, ""), events + [("raw", char)]))

    def test_the_goal_pending(self):
        for element, goal in self.goals():
            state = ("raw", element, goal)
            end = [("end", "")] + events_of("name", element)
            self.check(state, " \n/", ("gap", "-", ""), end)
            self.check(state, ">", START, end + [("close", "")])
            self.check(state, "<", ("raw", element, "<"), events_of("raw", goal))
            self.check_each(state, others(" \n/><"), lambda char: (
                ("raw", element, ""), events_of("raw", goal + char)))

    def test_only_the_own_name_ends_a_raw_text(self):
        self.assertEqual(walk("</style>", ("raw", "script", "")), (("raw", "script", ""), events_of("raw", "</style>")))
        self.assertEqual(walk("</script>", ("raw", "style", "")), (("raw", "style", ""), events_of("raw", "</script>")))
        self.assertEqual(walk("</SCRIPT>", ("raw", "script", ""))[0], ("raw", "script", ""))
        self.assertEqual(walk("</scripts>", ("raw", "script", ""))[0], ("raw", "script", ""))
        self.assertEqual(walk("</</script>", ("raw", "script", ""))[0], START)

    def test_references_and_comments_are_raw(self):
        for text in ("&lt;", "&;", "<!--x-->", "<b>"):
            self.assertEqual(walk(text, ("raw", "style", "")), (("raw", "style", ""), events_of("raw", text)))


class ReadAgainTest(StepTest):
    def test_a_character_through_several_places(self):
        self.assertEqual(walk("<b>")[1], [("tag", ""), ("name", "b"), ("close", "")])
        self.assertEqual(walk("<b c>")[1][-1], ("close", ""))
        self.assertEqual(walk("<b c=>"), (START, [("tag", ""), ("name", "b"), ("attribute", "c"), ("close", "")]))
        self.assertEqual(step(("bare", "script", "&l"), ">"), (
            ("raw", "script", ""), [("value", "&"), ("value", "l"), ("close", "")]))
        self.assertEqual(step(("bare", "-", "&#1"), "\n"), (("gap", "-", ""), events_of("value", "&#1")))
        self.assertEqual(step(("tag", "scrip", ""), "\""), (("name", "-", ""), [("attribute", "\"")]))


class FinishTest(unittest.TestCase):
    def test_text(self):
        for pending in ["", "<", "</", "<!", "<!-"] + BEGINNINGS:
            self.assertEqual(finish(("text", "", pending)), events_of("text", pending))

    def test_tag_gap_name_and_equals(self):
        for element in ("-", "s", "sc", "scr", "scri", "scrip", "script", "st", "sty", "styl", "style"):
            self.assertEqual(finish(("tag", element, "")), [("close", "")])
        for element in NAMES:
            for place in ("gap", "name", "equals"):
                self.assertEqual(finish((place, element, "")), [("close", "")])

    def test_values(self):
        for place in ("bare", "double", "single"):
            for element in NAMES:
                for pending in [""] + BEGINNINGS:
                    expected = events_of("value", pending) + [("close", "")]
                    self.assertEqual(finish((place, element, pending)), expected)

    def test_comment(self):
        self.assertEqual(finish(("comment", "", "")), [("close", "")])
        self.assertEqual(finish(("comment", "", "-")), [("comment", "-"), ("close", "")])
        self.assertEqual(finish(("comment", "", "--")), [("comment", "-"), ("comment", "-"), ("close", "")])

    def test_raw(self):
        for element in ("script", "style"):
            goal = "</" + element
            for size in range(len(goal) + 1):
                self.assertEqual(finish(("raw", element, goal[:size])), events_of("raw", goal[:size]))


class AllStatesTest(unittest.TestCase):
    def test_the_reachable_states(self):
        reached = {START}
        due = [START]
        while due:
            state = due.pop()
            for char in CHARACTERS:
                after = step(state, char)[0]
                if after not in reached:
                    reached.add(after)
                    due.append(after)
        self.assertEqual(reached, set(expected_states()))

    def test_each_state_with_each_character(self):
        for state in expected_states():
            for char in CHARACTERS:
                self.assertEqual(step(state, char), model_step(state, char), (state, char))
            self.assertEqual(finish(state), model_finish(state), state)


class AnswersTest(unittest.TestCase):
    def test_equal_answers_also_after_the_first_was_changed(self):
        for state in expected_states():
            for char in "a<>&;-/='\" ":
                first = step(state, char)
                kept = (first[0], list(first[1]))
                first[1].append("changed")
                self.assertEqual(step(state, char), kept, (state, char))
            ending = finish(state)
            kept = list(ending)
            ending.append("changed")
            self.assertEqual(finish(state), kept, state)

    def test_each_answer_is_a_new_list(self):
        for state in expected_states():
            self.assertIsNot(step(state, "a")[1], step(state, "a")[1])
            self.assertIsNot(step(state, "<")[1], step(state, "<")[1])
            self.assertIsNot(finish(state), finish(state))


if __name__ == "__main__":
    unittest.main()
