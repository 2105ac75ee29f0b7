"""Forms tokens of events, for pages and for rows alike."""


def grouped(found, form):
    """Return the tokens of events; `form` makes each of their strings of the list of its items."""
    tokens = []
    for kind, item in found:
        if kind == "text" or kind == "raw":
            if not tokens or tokens[-1][0] != kind:
                tokens.append((kind, []))
            tokens[-1][1].append(item)
        elif kind == "tag" or kind == "end":
            tokens.append((kind, [], []))
        elif kind == "attribute":
            tokens[-1][2].append(([item], []))
        elif kind == "name":
            name = tokens[-1][2][-1][0] if tokens[-1][2] else tokens[-1][1]
            name.append(item)
        elif kind == "value":
            tokens[-1][2][-1][1].append(item)
        elif kind == "comment" and item == "":
            tokens.append((kind, []))
        elif kind == "comment":
            tokens[-1][1].append(item)
    return [formed(token, form) for token in tokens]


def formed(token, form):
    """Return the token with a string in the place of each list of items."""
    if token[0] != "tag" and token[0] != "end":
        return (token[0], form(token[1]))
    kind, name, attributes = token
    return (kind, form(name), [(form(key), formed_value(items, form)) for key, items in attributes])


def formed_value(items, form):
    """Return the value of an attribute: even an empty one has an event, so without any there is none."""
    if items == []:
        return None
    return form(items)
