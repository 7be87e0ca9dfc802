"""The exceptions of the package: three bases, and classes directly under them."""


class ReflowError(ValueError):
    """The base of the exceptions for invalid arguments."""


class AbsentError(KeyError):
    """The base of the exceptions for what does not exist."""


class StateError(LookupError):
    """The base of the exceptions for what cannot be done now."""


class InvalidMark(ReflowError):
    """What should be a mark, or a kind of breaks, and is not."""

    def __init__(self, value):
        super().__init__("not a mark")
        self.value = value


class InvalidMarks(ReflowError):
    """What should be a row of marks, or of kinds of breaks, and is not."""

    def __init__(self, value):
        super().__init__("not a row of marks")
        self.value = value


class InvalidWords(ReflowError):
    """What should be a list of as many words as there are marks, and is not."""

    def __init__(self, value):
        super().__init__("not the words of these marks")
        self.value = value


class InvalidText(ReflowError):
    """What should be a text, or the writing of one, and is not."""

    def __init__(self, value):
        super().__init__("not a text")
        self.value = value


class InvalidStep(ReflowError):
    """What should be a step, or the writing of one, and is not."""

    def __init__(self, value):
        super().__init__("not a step")
        self.value = value


class InvalidChain(ReflowError):
    """What should be a chain, or the writing of one, and is not."""

    def __init__(self, value):
        super().__init__("not a chain")
        self.value = value


class InvalidStock(ReflowError):
    """What should be a stock and is not."""

    def __init__(self, value):
        super().__init__("not a stock")
        self.value = value


class InvalidInteger(ReflowError):
    """What should be an integer within bounds and is not."""

    def __init__(self, value):
        super().__init__("not an integer within the bounds")
        self.value = value


class InvalidState(ReflowError):
    """What should be a state and is not."""

    def __init__(self, value):
        super().__init__("not a state")
        self.value = value


class InvalidRow(ReflowError):
    """What should be a pattern, or a list of reports, and is not."""

    def __init__(self, value):
        super().__init__("not a row of this form")
        self.value = value


class InvalidChange(ReflowError):
    """What should be one of the three words for a change and is not."""

    def __init__(self, value):
        super().__init__("not a change")
        self.value = value


class InvalidName(ReflowError):
    """What should be a name for a chain and is not."""

    def __init__(self, value):
        super().__init__("not a name")
        self.value = value


class InvalidLine(ReflowError):
    """What should be a command and is not."""

    def __init__(self, value):
        super().__init__("not a command")
        self.value = value


class InvalidLines(ReflowError):
    """What should be a list of commands and is not."""

    def __init__(self, value):
        super().__init__("not a list of commands")
        self.value = value


class NotOver(ReflowError):
    """A text that is not over the stock."""

    def __init__(self, value):
        super().__init__("not a text over the stock")
        self.value = value


class InvalidPage(ReflowError):
    """A page with a wrong line; the field is the index of the first one."""

    def __init__(self, line):
        super().__init__("not a page")
        self.line = line


class TooMany(ReflowError):
    """More items than are allowed; the field is their number."""

    def __init__(self, count):
        super().__init__("too many items")
        self.count = count


class NoStep(AbsentError):
    """An index at which a chain has no step."""

    def __init__(self, index):
        super().__init__("no step at this index")
        self.index = index


class NoLetter(AbsentError):
    """What a machine cannot read."""

    def __init__(self, value):
        super().__init__("no letter that can be read")
        self.value = value


class NoInput(AbsentError):
    """A text that does not come of any text."""

    def __init__(self, value):
        super().__init__("no text of which this one comes")
        self.value = value


class NoChain(AbsentError):
    """A name that no chain has."""

    def __init__(self, name):
        super().__init__("no chain of this name")
        self.name = name


class NoStock(StateError):
    """Two stocks without a stock that both contain."""

    def __init__(self):
        super().__init__("no stock that both contain")


class NothingToUndo(StateError):
    """There is no edit to take back."""

    def __init__(self):
        super().__init__("nothing to undo")


class NothingToRedo(StateError):
    """There is no edit to do again."""

    def __init__(self):
        super().__init__("nothing to redo")
