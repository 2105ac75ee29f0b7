"""The walk of a record through a program: which instructions it leads to, and which records are present there."""


class Walk:
    """A record on its way through a program: the number of the instruction that is due, and the present records."""

    def __init__(self, instructions, record):
        self.instructions = instructions
        self.number = 0
        # The record itself, and the present record of each loop's variable.
        self.records = {"": record}
        # How many turns of a loop were begun with its present list, by the number of its `for`.
        self.begun = {}

    def datum(self, path):
        """Return the datum of a path in the present records."""
        variable, name = path
        return self.records[variable][name]

    def go_on(self):
        """Go on to the instruction that is due next; `stop` stays due."""
        instruction = self.instructions[self.number]
        kind = instruction[0]
        if kind == "char" or kind == "hole":
            self.number += 1
        elif kind == "if":
            self.number = self.number + 1 if self.datum(instruction[1]) else instruction[2]
        elif kind == "jump" or kind == "next":
            self.number = instruction[1]
        elif kind == "for":
            self.go_on_with_loop(instruction)

    def go_on_with_loop(self, instruction):
        """Begin the next turn of the loop that is due, or leave it."""
        _, variable, path, target = instruction
        records = self.datum(path)
        at = self.begun.get(self.number, 0)
        if at < len(records):
            self.begun[self.number] = at + 1
            self.records[variable] = records[at]
            self.number += 1
        else:
            # The loop may be reached again, in a turn of a loop around it, with another list.
            self.begun[self.number] = 0
            self.number = target
