"""Deeds that are tried: the desk is afterwards as it was."""

from splitnumbers.errors import BadDeed
from splitnumbers.kinds import is_listing


def tried(desk, deeds, question):
    """What the question tells of a copy of the desk on which the deeds are done."""
    if not is_listing(deeds):
        raise BadDeed("deeds")
    work = desk.copy()
    for deed in deeds:
        work.do(deed)
    return question(work)


class Trial:
    """For a with statement: at the end of the block the desk is as it was when the block was entered."""

    KIND = "trial"

    def __init__(self, desk):
        self.desk = desk
        self.kept = desk.history

    def __enter__(self):
        self.kept = self.desk.history
        return self.desk

    def __exit__(self, kind, value, trace):
        desk = self.desk
        desk.history = self.kept
