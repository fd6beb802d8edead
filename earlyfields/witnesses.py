"""An extension, a story and picks that show a gap as solved lives do."""

from earlyfields.actors import USER
from earlyfields.casts import Cast, first_legs
from earlyfields.families import Extension
from earlyfields.plays import all_entered, body_parts, entered_on, is_heirs, legs_of, picks_of


class Witness:
    """The extension, the story and the picks for lives one after another that come to a gap."""

    def __init__(self, family, traces, lives, gap):
        self.traces = traces
        self.cast = Cast(family, traces)
        pairs = all_entered(traces, lives, gap)
        for row, end in pairs:
            if is_heirs(row.role):
                self.cast.add_row(row, end)
        self.story = []
        for row, end in entered_on(traces.way_to(lives, gap)):
            self._add_life(row, end)
        self.extension = Extension(family, "\n".join(self.cast.lines))
        self.picks = picks_of(self, lives, gap)

    def _add_life(self, row, end):
        """Adds the deeds of a life."""
        world = row.role.world
        if world.name not in self.cast.tops:
            self.cast.add_world(world)
        self.story.append(("make", self.cast.tops[world.name]))
        for callee, bit in entered_on(self.traces.way_to(row, end)):
            if callee.role.place == USER:
                self.story.extend([step for step, used, other in legs_of(self.traces, callee, bit)])

    def parts_of(self, row, end):
        """What a row takes and executes on its way to an end: picks, and pairs of a row and its end."""
        member = row.role
        if isinstance(member.place, str):
            return body_parts(self.traces, row, end)
        if member.place < USER:
            return entered_on(self.traces.way_to(row, end))
        pairs = [(callee, bit) for step, callee, bit in legs_of(self.traces, row, end) if callee is not None]
        if member.place == USER:
            return pairs
        first = first_legs(member)
        return pairs[:first] + self.cast.picks_for(row, end) + pairs[first:]
