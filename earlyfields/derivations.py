"""The derivation of a gap in a solved family."""

from earlyfields.actors import NOWHERE
from earlyfields.plays import entered_on
from earlyfields.tracing import cost_of


class Deriver:
    """Writes rows of a derivation, each one behind those from which it follows."""

    def __init__(self, traces):
        self.traces = traces
        self.space = traces.space
        self.rows = []
        self.places = {}
        self.gaps = {}

    def derive(self, row, end):
        """Writes a row with an end, and all from which it follows."""
        work = [(row, end)]
        while len(work) > 0:
            pair = work[-1]
            below = [other for other in entered_on(self.traces.way_to(pair[0], pair[1])) if other not in self.places]
            if pair in self.places:
                work.pop()
            elif len(below) > 0:
                work.extend(below)
            else:
                self._write(pair[0], pair[1])

    def _write(self, row, end):
        """Writes a row with an end; what stands in no row that is shown counts only as its ends do."""
        member = row.role
        if end >= 2 * self.space.size:
            self.gaps[row] = self._gap_of(row, end)
        self.places[(row, end)] = len(self.rows)
        if member.place == NOWHERE:
            return
        begun = (member.world.name, member.place, member.key) + self.space.names_of(row.state)
        self.rows.append(begun + (self._end_of(row, end), cost_of(row, end)))

    def _end_of(self, row, end):
        """An end of a row as it is written."""
        size = self.space.size
        if end >= 2 * size:
            return ("gap",) + self.gaps[row]
        return ("end" if end < size else "failed",) + self.space.names_of(end % size)

    def _gap_of(self, row, end):
        """The gap (name, owner, key, path) to which a row comes."""
        way = self.traces.way_to(row, end)
        callee = way[-1][2]
        if callee is not None:
            return self.gaps[callee]
        return row.role.gap_at(way[-2][0], way[-2][1])


def derivation_of(traces, lives, gap):
    """The derivation of a gap to which solved lives come."""
    deriver = Deriver(traces)
    deriver.derive(lives, gap)
    return "seen", tuple(deriver.rows), tuple([deriver.places[pair] for pair in entered_on(traces.way_to(lives, gap))])
