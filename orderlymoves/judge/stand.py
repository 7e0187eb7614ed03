"""What may stand for a stretch, and papers that show it."""

from orderlymoves.base.values import is_number
from orderlymoves.judge.cases import cases


def may_stand(one, other, *, private=()):
    """Whether the second stretch may stand for the first one."""
    return fault(one, other, private=private) is None


def are_same(one, other, *, private=()):
    """Whether each of two stretches may stand for the other one."""
    return may_stand(one, other, private=private) and may_stand(other, one, private=private)


def fault(one, other, *, private=()):
    """The first case of two stretches that has a fault, None if none has."""
    for case in cases(one, other, private=private):
        if case.fault is not None:
            return case
    return None


def stand_paper(one, other, *, private=()):
    """A paper that shows that the second stretch may stand for the first one, None if it may not."""
    rows = {}
    for case in cases(one, other, private=private):
        if case.fault is not None:
            return None
        rows[_key(case)] = tuple([allowed[0] for allowed in _allowed(case)])
    return {key: rows[key] for key in sorted(rows)}


def is_stand_paper(one, other, value, *, private=()):
    """Whether the value is a paper that shows that the second stretch may stand for the first one."""
    found = list(cases(one, other, private=private))
    return isinstance(value, dict) and _has_keys(value, found) and all([_is_right(value, case) for case in found])


def _key(case):
    """The answers of a case, as a paper has them."""
    answers = case.answers
    return tuple([(pair, answers[pair]) for pair in answers])


def _allowed(case):
    """For each access of the walk of a case what a paper may tell of it."""
    private = case.way.private
    return [(-1,) if access[1] in private else covers for access, covers in zip(case.accesses, case.covers)]


def _has_keys(paper, found):
    """Whether a paper has just the answers of these cases as keys."""
    return (
        len(paper) == len(found)
        and all([_key(case) in paper for case in found])
        and all([_has_booleans(key) for key in paper])
    )


def _has_booleans(key):
    """Whether the answers in a key that equals a right one are booleans, and not the numbers that equal them."""
    return all([isinstance(told[1], bool) for told in key])


def _is_right(paper, case):
    """Whether a paper tells of each access of a case without a fault what covers it."""
    row = paper[_key(case)]
    if case.fault is not None or not isinstance(row, tuple) or len(row) != len(case.accesses):
        return False
    return all([_is_told(index, allowed) for index, allowed in zip(row, _allowed(case))])


def _is_told(value, allowed):
    return is_number(value, min(allowed), max(allowed)) and value in allowed
