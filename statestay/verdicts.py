"""Verdicts: which parts can lose their state or take that of others, and which places a node can have."""

from statestay.errors import NoItem
from statestay.findings import losing_choice, losing_data, mixing_choice, mixing_data
from statestay.levels import NODES
from statestay.study import Study
from statestay.witnesses import data_for


def verdicts(template, rule):
    """A dict from the paths of the parts to whether they can be lost and the paths that they can be mixed with."""
    study = Study(template, rule)
    paths = sorted(template.parts())
    mixed = {path: [] for path in paths}
    for at, path in enumerate(paths):
        for other in paths[at:]:
            if mixing_choice(study, path, other) is not None:
                mixed[path].append(other)
                if path != other:
                    mixed[other].append(path)
    return {path: (losing_choice(study.cases(path)) is not None, mixed[path]) for path in template.parts()}


def losing(template, rule, path):
    """Two data between which a part with this path is lost; None if there are none."""
    need_part_at(template, path)
    return losing_data(Study(template, rule), path)


def mixing(template, rule, path, other):
    """Two data between which a part with this path is mixed with one with the other path; None if there are none."""
    need_part_at(template, path)
    need_part_at(template, other)
    return mixing_data(Study(template, rule), path, other)


def need_part_at(template, path):
    """Raise NoItem if this is not the path of a part."""
    if path not in template.parts():
        raise NoItem(path)


def places(template, rule, path, most):
    """All integers up to the most that are the index of a node with this path, ascending."""
    need_node_at(template, path)
    found = 0
    for case in Study(template, rule).cases(path):
        found = found | case.indexes[-1]
    return [index for index in range(most + 1) if found >> index & 1 == 1]


def data_at(template, rule, path, index):
    """Data in whose drawing a node with this path has this index; None if there are none."""
    need_node_at(template, path)
    study = Study(template, rule)
    for case in study.cases(path):
        if case.indexes[-1] >> index & 1 == 1:
            return data_for(study, case, case.ids, case.least_indexes()[:-1] + [index])
    return None


def need_node_at(template, path):
    """Raise NoItem if this is not the path of a part or a group."""
    if template.item_at(path)[0] not in NODES:
        raise NoItem(path)
