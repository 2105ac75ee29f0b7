"""Programs: laid-out templates as lists of instructions."""


class Writing:
    """What was written so far of a program."""

    def __init__(self):
        self.instructions = []
        self.holes = 0

    def write(self, nodes):
        """Write the instructions of a list of nodes."""
        for node in nodes:
            if node[0] == "text":
                self.instructions.extend([("char", char) for char in node[1]])
            elif node[0] == "if":
                self.write_condition(node)
            elif node[0] == "for":
                self.write_loop(node)
            else:
                self.instructions.append(("hole", self.holes))
                self.holes += 1

    def write_condition(self, node):
        """Write the instructions of a condition."""
        _, path, first, second, _ = node
        start = self.reserved()
        self.write(first)
        middle = self.reserved()
        self.instructions[start] = ("if", path, middle + 1)
        self.write(second)
        self.instructions[middle] = ("jump", len(self.instructions))

    def write_loop(self, node):
        """Write the instructions of a loop."""
        _, name, path, nodes, _ = node
        start = self.reserved()
        self.write(nodes)
        self.instructions.append(("next", start))
        self.instructions[start] = ("for", name, path, len(self.instructions))

    def reserved(self):
        """Return the number of an instruction that is written later, when its target is known."""
        self.instructions.append(None)
        return len(self.instructions) - 1


def program(nodes):
    """Return the list of the instructions of a laid-out template."""
    writing = Writing()
    writing.write(nodes)
    return writing.instructions + [("stop",)]


def questions(instructions, number):
    """Return the questions of the loop whose `for` has the number, or of the record itself for -1."""
    variable = ""
    inside = instructions
    if number >= 0:
        _, variable, _, target = instructions[number]
        inside = instructions[number + 1:target - 1]
    paths = {step[1]: True for step in inside if step[0] == "if" and step[1][0] == variable}
    return sorted(paths)
