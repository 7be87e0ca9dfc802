"""Told back: all texts of which chains have made the texts of reports."""

from reflows.errors import InvalidInteger, InvalidMark, InvalidRow, InvalidText, NoInput, TooMany
from reflows.machines import Machine
from reflows.tables import check_chain, check_stock, table_of
from reflows.texts import is_text, lengths_of
from reflows.words import is_integer, is_mark

MOST_REPORTS = 3


class Sources:
    """All texts over a stock of which each of some chains makes the marks of the text in its report.

    A stage is a row of states, one of each chain's least machine. For each index the stages are kept that texts come to
    ahead of its token, each with the marks that can stand there, and for each mark the stage behind it.
    """

    def __init__(self, stock, reports):
        check_stock(stock)
        if not _are_pairs(reports):
            raise InvalidRow(reports)
        for chain, text in reports:
            _check_report(chain, text, reports[0][1])
        self._stock = stock
        self._reports = [(chain, list(text)) for chain, text in reports]
        self._words = [word for _, word in reports[0][1]]
        self._start = tuple([0] * len(reports))
        self._moves = self._all_moves()
        self._ahead = self._amounts_ahead()
        self._behind = self._amounts_behind()

    def __contains__(self, value):
        if not is_text(value) or [word for _, word in value] != self._words:
            return False
        stage = self._start
        for index, (mark, _) in enumerate(value):
            if mark not in self._moves[index][stage]:
                return False
            stage = self._moves[index][stage][mark]
        return True

    def amount(self):
        """Return the number of the sources."""
        return self._behind[0][self._start]

    def each(self):
        """Yield the sources in ascending order."""
        for number in range(self.amount()):
            yield self._numbered_source(number)

    def source_at(self, number):
        """Return the source with an index in ascending order."""
        if not is_integer(number, 0, self.amount() - 1):
            raise InvalidInteger(number)
        return self._numbered_source(number)

    def marks_at(self, index):
        """Return the list of the marks that sources have at an index, in order."""
        self._check_index(index)
        return self._marks_at(index)

    def sure(self):
        """Return the list of the indexes at which all sources have one mark."""
        return [index for index in range(len(self._words)) if len(self._marks_at(index)) == 1]

    def often(self, index, mark):
        """Return how many sources have a mark at an index."""
        self._check_index(index)
        if not is_mark(mark):
            raise InvalidMark(mark)
        return self._often(index, mark)

    def with_report(self, chain, text):
        """Return the sources with one report more."""
        _check_report(chain, text, self._reports[0][1])
        if len(self._reports) == MOST_REPORTS:
            raise TooMany(MOST_REPORTS + 1)
        return Sources(self._stock, self._reports + [(chain, text)])

    def _check_index(self, index):
        """Raise InvalidInteger if a value is not the index of a token."""
        if not is_integer(index, 0, len(self._words) - 1):
            raise InvalidInteger(index)

    def _all_moves(self):
        """Return for each index the moves from each stage that texts come to."""
        tables = [table_of(Machine(chain, self._stock)) for chain, _ in self._reports]
        marks = self._stock.marks()
        stages = [self._start]
        moves = []
        for index, word in enumerate(self._words):
            wanted = [text[index][0] for _, text in self._reports]
            letters = [(mark, len(word)) for mark in marks]
            found = {stage: _moves_from(tables, stage, letters, wanted) for stage in stages}
            moves.append(found)
            stages = list({behind: True for made in found.values() for behind in made.values()})
        return moves

    def _amounts_ahead(self):
        """Return for each index the numbers of the ways that lead to each stage."""
        amounts = [{self._start: 1}]
        for moves in self._moves:
            found = {}
            for stage, made in moves.items():
                for behind in made.values():
                    found[behind] = found.get(behind, 0) + amounts[-1][stage]
            amounts.append(found)
        return amounts

    def _amounts_behind(self):
        """Return for each index, and behind the last one, the numbers of the ways from each stage to the end."""
        amounts = [{stage: 1 for stage in self._ahead[-1]}]
        for moves in self._moves[::-1]:
            later = amounts[-1]
            amounts.append({stage: sum([later[behind] for behind in made.values()]) for stage, made in moves.items()})
        return amounts[::-1]

    def _often(self, index, mark):
        """Do what often does, without checks."""
        found = 0
        for stage, made in self._moves[index].items():
            if mark in made:
                found += self._ahead[index][stage] * self._behind[index + 1][made[mark]]
        return found

    def _marks_at(self, index):
        """Do what marks_at does, without checks."""
        return [mark for mark in self._stock.marks() if self._often(index, mark) > 0]

    def _numbered_source(self, number):
        """Do what source_at does, without checks."""
        stage = self._start
        source = []
        for index, word in enumerate(self._words):
            # The moves stand in the order of the marks: their sources come one behind another.
            moves = list(self._moves[index][stage].items())
            at = 0
            while number >= self._behind[index + 1][moves[at][1]]:
                number -= self._behind[index + 1][moves[at][1]]
                at += 1
            mark, stage = moves[at]
            source.append((mark, word))
        return source


def least_source(stock, chain, text):
    """Return the first source of one report, in ascending order."""
    sources = Sources(stock, [(chain, text)])
    if sources.amount() == 0:
        raise NoInput(text)
    return sources.source_at(0)


def _are_pairs(value):
    """Tell whether a value is a list of one to three tuples of two items."""
    if not isinstance(value, (list, tuple)) or not 1 <= len(value) <= MOST_REPORTS:
        return False
    return all([isinstance(item, tuple) and len(item) == 2 for item in value])


def _check_report(chain, text, first):
    """Raise what is due if these are not a chain, and a text with words of the lengths that those of the first have."""
    check_chain(chain)
    if not is_text(text) or lengths_of(text) != lengths_of(first):
        raise InvalidText(text)


def _moves_from(tables, stage, letters, wanted):
    """Return for each mark that can stand behind a stage the next stage: each table must make the mark it should."""
    found = {}
    for letter in letters:
        reached = []
        for table, state, mark in zip(tables, stage, wanted):
            made, behind = table[state].get(letter, (None, None))
            if made == mark:
                reached.append(behind)
        if len(reached) == len(stage):
            found[letter[0]] = tuple(reached)
    return found
