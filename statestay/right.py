"""Whether a template is right: whether each state stays with its part, whatever the data are."""

from statestay.findings import losing_data, mixing_data
from statestay.study import Study


def is_right(template, rule):
    """None if the template is right, otherwise two data with a fault and at most two rows in each list."""
    study = Study(template, rule, True)
    paths = template.parts()
    for path in paths:
        pair = losing_data(study, path)
        if pair is not None:
            return pair
    for at, path in enumerate(paths):
        for other in paths[at:]:
            pair = mixing_data(study, path, other)
            if pair is not None:
                return pair
    return None
