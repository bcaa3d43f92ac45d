"""Ways from a version up to another one."""

from pasthall.webs import check_versions


def counts_up(web, one):
    """For each version of a web, how many ways lead from it up to one."""
    counts = []
    for version, elders in enumerate(web):
        if version == one:
            counts.append(1)
        else:
            counts.append(sum([counts[elder] for elder in elders]))
    return counts


def ways(web, one, other):
    """How many ways lead from the other up to the one."""
    check_versions(web, [one, other])
    return counts_up(web, one)[other]


def must_pass(web, one, other):
    """The rising list of the versions that each way from the other up to the one has."""
    check_versions(web, [one, other])
    counts = counts_up(web, one)
    many = counts[other]
    if many == 0:
        return []
    # A version is in each way just where the ways up to it, and from it on, make as many as there are in all.
    return [version for version in range(len(web)) if counts_up(web, version)[other] * counts[version] == many]


def first_way(web, one, other):
    """The first of the ways from the other up to the one, or None."""
    check_versions(web, [one, other])
    counts = counts_up(web, one)
    if counts[other] == 0:
        return None
    way = [other]
    while way[-1] != one:
        way.append(min([elder for elder in web[way[-1]] if counts[elder] > 0]))
    return way
