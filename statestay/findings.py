"""Findings: two data with a fault, made from cases of a study."""

from statestay.cases import common_indexes, ids_to_meet
from statestay.sums import least_in
from statestay.witnesses import data_for


def losing_choice(cases):
    """Two choices of a case and of indexes that give one owner two addresses; None if there are none."""
    by_ids = {}
    for case in cases:
        indexes = case.least_indexes()
        for at, found in enumerate(case.indexes):
            more = found & (found - 1)
            if more:
                return ((case, indexes), (case, indexes[:at] + [least_in(more)] + indexes[at + 1:]))
        # No two cases are alike, so a second one with these ids has another address.
        if case.ids in by_ids:
            first = by_ids[case.ids]
            return ((first, first.least_indexes()), (case, indexes))
        by_ids[case.ids] = case
    return None


def losing_data(study, path):
    """Two data between which a part with this path is lost; None if there are none."""
    choice = losing_choice(study.cases(path))
    if choice is None:
        return None
    return tuple([data_for(study, case, case.ids, indexes) for case, indexes in choice])


def mixing_choice(study, path, other):
    """A case of each path, with ids for the second and indexes for both with which they have one address and two
    owners; None if there is none."""
    forms = study.cases_by_form(other)
    for first in study.cases(path):
        for second in forms.get(first.form, []):
            ids = ids_to_meet(first, second)
            indexes = common_indexes(first, second)
            if ids is not None and indexes is not None:
                return (first, second, ids, indexes)
    return None


def mixing_data(study, path, other):
    """Two data between which a part with this path is mixed with one with the other path; None if there are none."""
    choice = mixing_choice(study, path, other)
    if choice is None:
        return None
    first, second, ids, indexes = choice
    return (data_for(study, first, first.ids, indexes), data_for(study, second, ids, indexes))
