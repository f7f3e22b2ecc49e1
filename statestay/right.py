"""Whether a template is right: whether each state stays with its part, whatever the data are."""

from statestay.findings import losing_data, mixing_data
from statestay.study import Study


def is_right(template, rule):
    """None if the template is right, otherwise two data with a fault and at most two rows in each list."""
    study = Study(template, rule)
    paths = template.parts()
    # What is lost is shown by the two least indexes of a node, and the second one of them needs one row more than must
    # be there: with two more, either of them could be left out, and there would be a third index below it. If nothing
    # is lost, each part with its ids has one address, and no more rows are needed than must be there.
    for path in paths:
        pair = losing_data(study, path)
        if pair is not None:
            return pair
    for at, path in enumerate(paths):
        for other in paths[at:]:
            pair = mixing_data(study, path, other)
            if pair is not None:
                return pair
    return None
