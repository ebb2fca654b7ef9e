"""Trials: blocks behind which a keeper is as it was ahead of them, unless they are kept."""


class Block:
    """A block that is gone through, with what the keeper had ahead of it.

    outer is the block of the keeper around it; above is the one that the same trial was in already;
    kept_by is the Trial that keeps it, if one does.
    """

    def __init__(self, owner, above):
        self.above = above
        self.outer = owner.trying
        self.saved_done = list(owner.done)
        self.saved_undone = list(owner.undone)
        # No truth value: the rows of __exit__ may ask an attribute by is None alone.
        self.kept_by = None
        self.is_void = False


class Trial:
    """What a keeper tries: kept if keep is called in the block, and no error leaves it."""

    def __init__(self, owner):
        self.owner = owner
        self.entered = None

    def keep(self):
        """What is done in the block stays."""
        if self.entered is not None:
            self.entered.kept_by = self

    def __enter__(self):
        self.entered = Block(self.owner, self.entered)
        self.owner.trying = self.entered
        return self

    def __exit__(self, kind, value, trace):
        if kind is not None or self.entered.kept_by is None:
            self.owner.done = self.entered.saved_done
            self.owner.undone = self.entered.saved_undone
            self.entered.is_void = True
        self.owner.trying = self.entered.outer
        self.entered = self.entered.above


def is_undone(block):
    """Whether what is done in a block is undone: it was not kept, or one around it was not."""
    while block is not None:
        if block.is_void:
            return True
        block = block.outer
    return False
