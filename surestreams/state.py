"""What is known of the results of all steps of a query at one moment."""

from surestreams.possibility import found_possible
from surestreams.regions import pick
from surestreams.relations import chains, relation, rows_of_step
from surestreams.surety import found_sure


class State:
    """The present, sure and possible rows of the steps of a query; each answer is kept.

    sources is a dict from names to streams. Steps are told by their index; the last one is that of
    the query. If a stream changes, the state has to be told.
    """

    def __init__(self, steps, sources):
        self.steps = steps
        self.sources = sources
        self.top = len(steps) - 1
        self._results = {}
        self._origins = {}
        self._sure = {at: {} for at in range(len(self.steps))}
        self._sure_chains = {}
        self._possible = {at: {} for at in range(len(self.steps))}

    def result(self, at):
        """Returns the relation of the present result of a step."""
        if at not in self._results:
            step = self.steps[at]
            if step.kind == "source":
                self._results[at] = relation(self.sources[step.word].rows())
            else:
                self._results[at] = rows_of_step(step, [self.result(below) for below in step.below])
        return self._results[at]

    def origins(self, at, row):
        """Returns the present rows that a step for columns reduces to a row."""
        if at not in self._origins:
            step = self.steps[at]
            groups = {}
            for wide in self.result(step.below[0]):
                groups.setdefault(pick(wide, step.places), []).append(wide)
            self._origins[at] = groups
        return self._origins[at].get(row, [])

    def is_sure(self, at, row):
        """Returns whether a row is sure in the result of a step."""
        known = self._sure[at]
        if row not in known:
            known[row] = found_sure(self, at, row)
        return known[row]

    def sure_chains(self, at):
        """Returns the relation of the sure rows of a step for a closure."""
        if at not in self._sure_chains:
            below = self.steps[at].below[0]
            pairs = [pair for pair in self.result(below) if self.is_sure(below, pair)]
            self._sure_chains[at] = chains(pairs)
        return self._sure_chains[at]

    def possible(self, at, span):
        """Returns the region of the possible rows of a span, which is not empty, in the result of a step."""
        known = self._possible[at]
        if span not in known:
            known[span] = found_possible(self, at, span)
        return known[span]

    def over(self, sources, names):
        """Returns the state over other streams, of which only those with these names have other rows."""
        other = State(self.steps, sources)
        for at, step in enumerate(self.steps):
            if at in self._results and not any([name in step.sides for name in names]):
                other._results[at] = self._results[at]
        return other

    def row_came(self, name):
        """Forgets the answers that may be different after a row has come to a stream."""
        for at, step in enumerate(self.steps):
            if name in step.sides:
                self._results.pop(at, None)
                self._origins.pop(at, None)
                self._forget(at, step.sides[name] == "add")

    def promise_came(self, name):
        """Forgets the answers that may be different after a promise for a stream."""
        for at, step in enumerate(self.steps):
            if name in step.sides:
                self._forget(at, step.sides[name] == "take")

    def _forget(self, at, is_for_sure_rows):
        """Forgets which rows are not sure, or which are possible; the opposite does not change any more."""
        if is_for_sure_rows:
            self._sure_chains.pop(at, None)
            self._sure[at] = {row: True for row, is_sure in self._sure[at].items() if is_sure}
        else:
            self._possible[at] = {span: [] for span, region in self._possible[at].items() if not region}
