"""The reader of points 103 to 113 and 202 a second time, word for word as the points say it.

It is slow and plain on purpose: each point is one function, reading again is a call of `model_step`, and references
are looked up in the list of all of them. The tests hold the program against it.
"""

import itertools

from tests.common import BEGINNINGS, BLANKS, DIGITS, LETTERS, RAW_NAMES, REFERENCES, START

KIND_OF_PLACE = {
    "text": "text", "bare": "value", "double": "value", "single": "value", "comment": "comment", "raw": "raw",
}
BEGINNING_SET = set(BEGINNINGS)


def settle(state):
    return [(KIND_OF_PLACE[state[0]], char) for char in state[2]]


def read_again(events, state, char):
    after, more = model_step(state, char)
    return after, events + more


def settle_and_read_again(state, char):
    return read_again(settle(state), (state[0], state[1], ""), char)


def model_step(state, char):
    return POINTS[state[0]](state, char)


def behind_beginning(state, char):
    place, element, pending = state
    both = pending + char
    if both in REFERENCES:
        return (place, element, ""), [(KIND_OF_PLACE[place], meant) for meant in REFERENCES[both]]
    if both in BEGINNING_SET:
        return (place, element, both), []
    return settle_and_read_again(state, char)


def point_105(state, char):
    pending = state[2]
    if pending == "":
        if char in "<&":
            return ("text", "", char), []
        return state, [("text", char)]
    if pending in BEGINNING_SET:
        return behind_beginning(state, char)
    if pending == "<":
        if char in LETTERS:
            return read_again([("tag", "")], ("tag", "", ""), char)
        if char in "/!":
            return ("text", "", "<" + char), []
    if pending == "</":
        if char in LETTERS:
            return read_again([("end", "")], ("tag", "-", ""), char)
    if pending == "<!":
        if char == "-":
            return ("text", "", "<!-"), []
    if pending == "<!-":
        if char == "-":
            return ("comment", "", ""), [("comment", "")]
    return settle_and_read_again(state, char)


def point_106(state, char):
    element = state[1]
    if char in LETTERS or char in DIGITS or char == "-":
        if element != "-":
            element += char
            if not any(name[:len(element)] == element for name in RAW_NAMES):
                element = "-"
        return ("tag", element, ""), [("name", char)]
    return read_again([], ("gap", element if element in RAW_NAMES else "-", ""), char)


def point_107(state, char):
    element = state[1]
    if char in BLANKS or char == "/":
        return state, []
    if char == ">":
        return (START if element == "-" else ("raw", element, "")), [("close", "")]
    return ("name", element, ""), [("attribute", char)]


def point_108(state, char):
    element = state[1]
    if char in BLANKS:
        return ("gap", element, ""), []
    if char in "/>":
        return read_again([], ("gap", element, ""), char)
    if char == "=":
        return ("equals", element, ""), []
    return state, [("name", char)]


def point_109(state, char):
    element = state[1]
    if char == "\"":
        return ("double", element, ""), [("value", "")]
    if char == "'":
        return ("single", element, ""), [("value", "")]
    if char in BLANKS or char == ">":
        return read_again([], ("gap", element, ""), char)
    return read_again([("value", "")], ("bare", element, ""), char)


def point_110(state, char):
    place, element, pending = state
    if pending != "":
        return behind_beginning(state, char)
    if place == "bare" and (char in BLANKS or char == ">"):
        return read_again([], ("gap", element, ""), char)
    if place == "double" and char == "\"" or place == "single" and char == "'":
        return ("gap", element, ""), []
    if char == "&":
        return (place, element, "&"), []
    return state, [("value", char)]


def point_111(state, char):
    pending = state[2]
    if pending == "":
        if char == "-":
            return ("comment", "", "-"), []
        return state, [("comment", char)]
    if pending == "-":
        if char == "-":
            return ("comment", "", "--"), []
    if pending == "--":
        if char == ">":
            return START, [("close", "")]
        if char == "-":
            return state, [("comment", "-")]
    return settle_and_read_again(state, char)


def point_112(state, char):
    place, element, pending = state
    goal = "</" + element
    if pending == goal and (char in BLANKS or char in "/>"):
        events = [("end", "")] + [("name", letter) for letter in element]
        return read_again(events, ("gap", "-", ""), char)
    both = pending + char
    if goal[:len(both)] == both:
        return (place, element, both), []
    if pending != "":
        return settle_and_read_again(state, char)
    return state, [("raw", char)]


POINTS = {
    "text": point_105, "tag": point_106, "gap": point_107, "name": point_108, "equals": point_109,
    "bare": point_110, "double": point_110, "single": point_110, "comment": point_111, "raw": point_112,
}


def model_finish(state):
    """Point 113."""
    if state[0] in ("text", "raw"):
        return settle(state)
    if state[0] in ("comment", "bare", "double", "single"):
        return settle(state) + [("close", "")]
    return [("close", "")]


def model_mark_step(state, number):
    """Point 202."""
    place, element, _ = state
    if place in KIND_OF_PLACE:
        return (place, element, ""), settle(state) + [(KIND_OF_PLACE[place], number)]
    if place == "equals":
        return ("bare", element, ""), [("value", ""), ("value", number)]
    if place == "tag":
        return ("tag", "-", ""), [("name", number)]
    if place == "gap":
        return ("name", element, ""), [("attribute", number)]
    return ("name", element, ""), [("name", number)]


def expected_states():
    """All states that can be reached, listed place by place."""
    inside = [name[:size] for name in RAW_NAMES for size in range(1, len(name) + 1)]
    found = [("text", "", pending) for pending in ["", "<", "</", "<!", "<!-"] + BEGINNINGS]
    found += [("tag", element, "") for element in sorted(set(inside)) + ["-"]]
    for element in RAW_NAMES + ["-"]:
        found += [(place, element, "") for place in ("gap", "name", "equals")]
        found += [(place, element, pending) for place in ("bare", "double", "single") for pending in [""] + BEGINNINGS]
    found += [("comment", "", pending) for pending in ("", "-", "--")]
    for element in RAW_NAMES:
        goal = "</" + element
        found += [("raw", element, goal[:size]) for size in range(len(goal) + 1)]
    return found


def model_events(page):
    state = START
    found = []
    for char in page:
        state, events = model_step(state, char)
        found += events
    return found + model_finish(state)


def model_tokens(events, join="".join):
    """Points 114 and 203; `join` makes a string, or pieces, of a list of items."""
    tokens = []
    at = 0
    while at < len(events):
        kind = events[at][0]
        if kind in ("text", "raw"):
            end = at
            while end < len(events) and events[end][0] == kind:
                end += 1
            tokens.append((kind, join([item for _, item in events[at:end]])))
            at = end
            continue
        end = events.index(("close", ""), at)
        inside = events[at + 1:end]
        if kind == "comment":
            tokens.append((kind, join([item for _, item in inside])))
        else:
            tokens.append(model_tag(kind, inside, join))
        at = end + 1
    return tokens


def model_tag(kind, inside, join):
    starts = [at for at, event in enumerate(inside) if event[0] == "attribute"] + [len(inside)]
    name = join([item for _, item in inside[:starts[0]]])
    attributes = []
    for start, end in zip(starts, starts[1:]):
        part = inside[start:end]
        key = join([item for event, item in part if event in ("attribute", "name")])
        has_value = any(event == "value" for event, _ in part)
        value = join([item for event, item in part if event == "value"]) if has_value else None
        attributes.append((key, value))
    return (kind, name, attributes)


def model_pieces(items):
    """The list of pieces of a list of characters, empty texts and marks."""
    return [
        piece
        for is_mark, group in itertools.groupby(items, lambda item: isinstance(item, int))
        for piece in (group if is_mark else ["".join(group)])
        if piece != ""
    ]


def model_row_events(row):
    state = START
    found = []
    for item in row:
        state, events = model_mark_step(state, item) if isinstance(item, int) else model_step(state, item)
        found += events
    return found + model_finish(state)


def model_tree(tokens):
    """Point 117, by the number of the node in which each node stands."""
    nodes = []
    opened = []
    for token in tokens:
        if token[0] == "end":
            names = [nodes[number][0][1] for number in opened]
            if token[1] in names:
                del opened[len(names) - 1 - names[::-1].index(token[1]):]
            continue
        nodes.append((token, opened[-1] if opened else None))
        if token[0] == "tag" and token[1] not in ("br", "hr", "img", "meta", "link", "wbr"):
            opened.append(len(nodes) - 1)
    return nodes_in(nodes, None)


def nodes_in(nodes, parent):
    return [
        ("element", token[1], token[2], nodes_in(nodes, number)) if token[0] == "tag" else token
        for number, (token, inside) in enumerate(nodes) if inside == parent
    ]


def model_read(page):
    return model_tokens(model_events(page))


def events_of_tokens(tokens):
    """The events that a page with these tokens must have; no two lists of events have the same tokens."""
    found = []
    for token in tokens:
        kind = token[0]
        if kind in ("text", "raw"):
            found += [(kind, char) for char in token[1]]
        elif kind == "comment":
            found += [(kind, "")] + [(kind, char) for char in token[1]] + [("close", "")]
        else:
            found += [(kind, "")] + [("name", char) for char in token[1]]
            for key, value in token[2]:
                found += [("attribute", key[:1])] + [("name", char) for char in key[1:]]
                if value is not None:
                    found += [("value", "")] + [("value", char) for char in value]
            found.append(("close", ""))
    return found


STEPS = {}


def cached_step(state, char):
    if (state, char) not in STEPS:
        STEPS[(state, char)] = model_step(state, char)
    return STEPS[(state, char)]


def search_page(tokens):
    """The shortest page of the tokens, of several the first one; None if there is none.

    It is found by a breadth-first search over the states of the reader and the numbers of events that were emitted,
    in the order of strings. Characters that can neither be meant nor be part of the markup are not tried.
    """
    wanted = events_of_tokens(tokens)
    if model_tokens(wanted) != tokens:
        return None
    signs = sorted(set("\n />=!-&;#\"'<ltgamp" + DIGITS) | {char for _, char in wanted if char != ""})
    came = {(START, 0): None}
    due = [(START, 0)]
    for node in due:
        state, count = node
        if model_finish(state) == wanted[count:]:
            return page_of_way(came, node)
        for char in signs:
            after, events = cached_step(state, char)
            follower = (after, count + len(events))
            if follower not in came and wanted[count:count + len(events)] == events:
                came[follower] = (node, char)
                due.append(follower)
    return None


def page_of_way(came, node):
    chars = []
    while came[node] is not None:
        node, char = came[node]
        chars.append(char)
    return "".join(reversed(chars))
