"""The latest common versions of some versions, and the paper by which they are looked at."""

from pasthall.errors import NoVersion
from pasthall.webs import above, check_versions, elders_of, is_version


def check_some(web, some):
    """Refuse what is no web, then no versions at all or a number of none."""
    check_versions(web, some)
    if some == []:
        raise NoVersion("no versions at all")


def all_have(sets, version):
    """Whether each of some lists has a version."""
    return all([version in part for part in sets])


def latest_of(web, sets):
    """Of the versions that all of some lists have, those that are no elder of one that all have."""
    common = [version for version in sets[0] if all_have(sets, version)]
    elders = elders_of(web, common)
    return [version for version in common if version not in elders]


def latest_common(web, some):
    """The rising list of the latest common ones of some versions."""
    return common_paper(web, some)[0]


def common_paper(web, some):
    """The common paper of some versions: their latest common ones, and for each all that is above it."""
    check_some(web, some)
    sets = [above(web, version) for version in some]
    return (latest_of(web, sets), sets)


def are_rising_versions(web, numbers):
    """Whether numbers are versions of a web, rising, none twice."""
    return numbers == sorted(set(numbers)) and all([is_version(web, number) for number in numbers])


def set_holds(web, version, part):
    """Whether a list is that of all above a version, looked at by the elders of its own members alone."""
    if version not in part or not are_rising_versions(web, part):
        return False
    elders = elders_of(web, part)
    if not all([elder in part for elder in sorted(elders)]):
        return False
    return all([member == version or member in elders for member in part])


def common_holds(web, some, paper):
    """Whether a common paper of some versions holds."""
    check_some(web, some)
    sets = paper[1]
    if len(sets) != len(some):
        return False
    if not all([set_holds(web, version, part) for version, part in zip(some, sets)]):
        return False
    return paper[0] == latest_of(web, sets)
