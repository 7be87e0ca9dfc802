"""Chains: rows of steps, each of which gets what the one ahead of it makes."""

from reflows.errors import InvalidChain, InvalidStep, NoStep, TooMany
from reflows.runs import check_reading, run_tokens
from reflows.steps import is_step, read_step
from reflows.words import is_integer

MOST_STEPS = 4


class Chain:
    """A row of at most four steps."""

    def __init__(self, steps=()):
        if not isinstance(steps, (list, tuple)):
            raise InvalidChain(steps)
        for step in steps:
            if not is_step(step):
                raise InvalidStep(step)
        if len(steps) > MOST_STEPS:
            raise TooMany(len(steps))
        self._steps = list(steps)

    def __call__(self, text):
        return run_tokens(self, text)

    def __len__(self):
        return len(self._steps)

    def __getitem__(self, index):
        self._check_index(index)
        return self._steps[index]

    def __iter__(self):
        return iter(self._steps)

    def __eq__(self, other):
        return isinstance(other, Chain) and self._steps == other._steps

    def __add__(self, other):
        if not isinstance(other, Chain):
            raise InvalidChain(other)
        return Chain(self._steps + other._steps)

    def __str__(self):
        if len(self._steps) == 0:
            return "-"
        return "; ".join([str(step) for step in self._steps])

    @property
    def reach(self):
        return max([step.reach for step in self._steps], default=0)

    def steps(self):
        """Return the list of the steps."""
        return list(self._steps)

    def without(self, index):
        """Return the chain without the step at an index."""
        self._check_index(index)
        return Chain(self._steps[:index] + self._steps[index + 1:])

    def begin(self):
        """Return the state: those of the steps, one behind the other."""
        return tuple([item for step in self._steps for item in step.begin()])

    def read(self, state, mark, length):
        check_reading(self.begin(), state, mark, length)
        return self.advance(state, mark, length)

    def advance(self, state, mark, length):
        """Do what read does, without checks."""
        reached = []
        start = 0
        for step in self._steps:
            end = start + len(step.begin())
            mark, part = step.advance(state[start:end], mark, length)
            reached.extend(part)
            start = end
        return (mark, tuple(reached))

    def _check_index(self, index):
        """Raise NoStep if there is no step at an index."""
        if not is_integer(index, 0, len(self._steps) - 1):
            raise NoStep(index)


def read_chain(text):
    """Return the chain with this writing."""
    if not isinstance(text, str):
        raise InvalidChain(text)
    parts = [] if text == "-" else text.split("; ")
    try:
        return Chain([read_step(part) for part in parts])
    except (InvalidStep, TooMany):
        raise InvalidChain(text) from None
