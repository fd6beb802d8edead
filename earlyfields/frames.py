"""Objects, and the bodies that are executed for them."""

from earlyfields.steps import blocks_of


class Born:
    """An object with its number and its class; the keys of the dict own are the names that it owns."""

    def __init__(self, number, kind, own):
        self.number = number
        self.kind = kind
        self.own = own


class Frame:
    """A body, or a block of it, that is executed for an object.

    owner and key tell the member; ahead is what stands ahead of the indexes in the paths of its steps; path is
    the path of the step that began last; rescue is the frame that is executed if this one fails, or None.
    """

    def __init__(self, thing, owner, key, ahead, steps):
        self.thing = thing
        self.owner = owner
        self.key = key
        self.ahead = ahead
        self.steps = steps
        self.begun = 0
        self.path = ()
        self.rescue = None

    def is_over(self):
        """Whether no step is left."""
        return self.begun == len(self.steps)

    def advance(self):
        """Begins the next step, which is returned."""
        step = self.steps[self.begun]
        self.path = self.ahead + (self.begun,)
        self.begun = self.begun + 1
        return step

    def repeat_step(self):
        """Makes the step that began last the next one again."""
        self.begun = self.begun - 1

    def where(self):
        """The place of the step that began last: the class, the key and the path."""
        return self.owner, self.key, self.path

    def block(self, step, number):
        """The frame of a block of the step that began last."""
        return Frame(self.thing, self.owner, self.key, self.path + (number,), blocks_of(step)[number])
