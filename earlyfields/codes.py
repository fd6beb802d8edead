"""Bodies as numbered nodes, each of which knows where it goes on."""

from earlyfields.steps import blocks_of

# Where a member goes that ends, fails or shows a gap; nodes have the numbers from 0 on.
END = -1
FAILED = -2
GAP = -3


class Code:
    """The nodes of a body, one for each step, as tuples (word, about, path, after, failed, targets).

    about is the name, method or class of the step, or None; after and failed are where it goes on when it ends
    and when it fails; targets are where the blocks begin between which it chooses. entry is where the body begins.
    """

    def __init__(self, body):
        self.nodes = []
        self.entry = self._add_block(body, (), END, FAILED)

    def _add_block(self, body, ahead, after, failed):
        """Adds the nodes of a block that goes on at after and failed; where it begins."""
        for index in range(len(body) - 1, -1, -1):
            after = self._add_step(body[index], ahead + (index,), after, failed)
        return after

    def _add_step(self, step, path, after, failed):
        """Adds the node of a step, and those of its blocks; its number."""
        number = len(self.nodes)
        # Its place is taken before its blocks are known, since the block of a loop goes on at the loop.
        self.nodes.append(())
        word = step[0]
        blocks = blocks_of(step)
        if word == "loop":
            targets = (after, self._add_block(blocks[0], path + (0,), number, failed))
        elif word == "try":
            rescue = self._add_block(blocks[1], path + (1,), after, failed)
            targets = (self._add_block(blocks[0], path + (0,), after, rescue),)
        else:
            targets = self._add_blocks(blocks, path, after, failed)
        self.nodes[number] = (word, about_of(step), path, after, failed, targets)
        return number

    def _add_blocks(self, blocks, path, after, failed):
        """Adds the nodes of blocks one of which is executed; where each one begins."""
        return tuple([self._add_block(block, path + (at,), after, failed) for at, block in enumerate(blocks)])


def about_of(step):
    """The name, method or class that a step is about, or None."""
    if len(step) > 1 and isinstance(step[1], str):
        return step[1]
    return None
