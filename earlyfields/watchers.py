"""Watchers, which note the events of a maker."""


class Watcher:
    """Counts the events that it notes."""

    def __init__(self):
        self.many = 0

    def note(self, event):
        """Notes an event."""
        self.many = self.many + 1


class Tally(Watcher):
    """Counts the events with each word, too."""

    def __init__(self):
        super().__init__()
        self._counts = {}

    def note(self, event):
        """Notes an event."""
        super().note(event)
        word = event[4]
        self._counts[word] = self._counts.get(word, 0) + 1

    def count_of(self, word):
        """How many events with a word were noted."""
        return self._counts.get(word, 0)

    def __str__(self):
        return "\n".join([word.ljust(8) + str(self._counts[word]).rjust(5) for word in sorted(self._counts)])


class Places(Watcher):
    """Keeps the members in which events come, too."""

    def __init__(self):
        super().__init__()
        self._members = {}

    def note(self, event):
        """Notes an event."""
        super().note(event)
        self._members[(event[1], event[2])] = True

    def listed(self):
        """The different pairs of a class and a key, in the order in which they came first."""
        return list(self._members)


class Report(Tally, Places):
    """Does what a Tally and a Places do."""

    def note(self, event):
        """Notes an event, once."""
        super().note(event)
