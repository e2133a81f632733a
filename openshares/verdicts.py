"""Verdicts: whether one number for each person is enough, and what shows it."""

from openshares.copying import copied
from openshares.errors import NotSingle
from openshares.papers import Paper, check_paper
from openshares.schemes import Scheme, fits
from openshares.single import is_single, one_each

SINGLE = "single"
MORE = "more"


class Verdict:
    """A kind, and a scheme or a paper that shows it."""

    def __init__(self, kind, paper):
        self._kind = copied(kind)
        self._paper = copied(paper)

    @property
    def kind(self):
        """The kind."""
        return copied(self._kind)

    @property
    def paper(self):
        """The scheme or the paper."""
        return copied(self._paper)


def judge(family):
    """Return the verdict of the family."""
    try:
        return Verdict(SINGLE, one_each(family))
    except NotSingle as error:
        return Verdict(MORE, error.value)


def check_verdict(family, verdict):
    """Tell whether the verdict's paper shows its kind for the family."""
    kind, paper = verdict.kind, verdict.paper
    if kind == SINGLE and isinstance(paper, Scheme):
        return is_single(paper) and fits(paper, family)
    if kind == MORE and isinstance(paper, Paper):
        return check_paper(family, paper)
    return False
