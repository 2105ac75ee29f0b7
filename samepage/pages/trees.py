"""The tree of tokens."""

EMPTY = ("br", "hr", "img", "meta", "link", "wbr")


def tree(tokens):
    """Return the list of the nodes of tokens."""
    top = []
    # The elements that are not closed yet, the innermost one last, and how many of them have each name.
    chain = []
    many = {}
    for token in tokens:
        nodes = chain[-1][1] if chain else top
        if token[0] == "tag":
            _, name, attributes = token
            inside = []
            nodes.append(("element", name, list(attributes), inside))
            if name not in EMPTY:
                chain.append((name, inside))
                many[name] = many.get(name, 0) + 1
        elif token[0] == "end":
            name = token[1]
            closed = None if many.get(name, 0) > 0 else name
            while closed != name:
                closed, _ = chain.pop()
                many[closed] -= 1
        else:
            nodes.append(token)
    return top
