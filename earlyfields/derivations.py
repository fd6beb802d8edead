"""The derivation of a gap to which solved lives come."""

from earlyfields.actors import NOWHERE
from earlyfields.plays import entered_on
from earlyfields.tracing import cost_of


class Deriver:
    """Writes the rows of a derivation, each one behind those from which it follows.

    indexes has the index of each pair of a row and its end that is written; gaps has the gap (name, owner, key,
    path) to which a row comes.
    """

    def __init__(self, traces):
        self.traces = traces
        self.space = traces.space
        self.written_rows = []
        self.indexes = {}
        self.gaps = {}

    def derive(self, row, end):
        """Writes a row with an end, and all from which it follows."""
        work = [(row, end)]
        while len(work) > 0:
            above, bit = work[-1]
            below = [pair for pair in entered_on(self.traces.way_to(above, bit)) if pair not in self.indexes]
            if (above, bit) in self.indexes:
                work.pop()
            elif len(below) > 0:
                work.extend(below)
            else:
                self._write(above, bit)

    def _write(self, row, end):
        """Writes a row with an end; what is shown in no row only counts as written."""
        member = row.role
        if end >= 2 * self.space.size:
            self.gaps[row] = self._gap_of(row, end)
        self.indexes[(row, end)] = len(self.written_rows)
        if member.place != NOWHERE:
            begun = (member.world.name, member.place, member.key) + self.space.names_of(row.state)
            self.written_rows.append(begun + (self._end_of(row, end), cost_of(row, end)))

    def _end_of(self, row, end):
        """An end of a row as it is written."""
        size = self.space.size
        if end >= 2 * size:
            return ("gap",) + self.gaps[row]
        return ("end" if end < size else "failed",) + self.space.names_of(end % size)

    def _gap_of(self, row, end):
        """The gap to which a row comes by itself, or with the row that it executed last."""
        way = self.traces.way_to(row, end)
        callee = way[-1][2]
        if callee is not None:
            return self.gaps[callee]
        return row.role.gap_at(way[-2][0], way[-2][1])


def derivation_of(traces, lives, gap):
    """The derivation of a gap to which the row of all lives comes."""
    deriver = Deriver(traces)
    deriver.derive(lives, gap)
    indexes = [deriver.indexes[pair] for pair in entered_on(traces.way_to(lives, gap))]
    return "seen", tuple(deriver.written_rows), tuple(indexes)
