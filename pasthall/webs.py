"""Webs: for each version its elders; what is above a version, below it and between two."""

from pasthall.errors import BadWeb, NoVersion

MOST_VERSIONS = 40
MOST_ELDERS = 3


def are_elders(elders, version):
    """Whether whole numbers may be the elders of the version with a number."""
    last = -1
    for elder in elders:
        if elder <= last or elder >= version:
            return False
        last = elder
    return len(elders) <= MOST_ELDERS


def is_web(web):
    """Whether a list of tuples of whole numbers is a web."""
    if web == [] or len(web) > MOST_VERSIONS:
        return False
    return all([are_elders(elders, version) for version, elders in enumerate(web)])


def check_web(web):
    """Refuse what is no web."""
    if not is_web(web):
        raise BadWeb("no web of versions")


def is_version(web, version):
    """Whether a number is one of a web's versions."""
    return 0 <= version < len(web)


def check_versions(web, some):
    """Refuse what is no web, then numbers of no version of it."""
    check_web(web)
    if not all([is_version(web, version) for version in some]):
        raise NoVersion("a number of no version")


def elders_of(web, some):
    """All elders of some versions, as a dict of True."""
    found = {}
    for version in some:
        for elder in web[version]:
            found[elder] = True
    return found


def above(web, version):
    """The rising list of what is above a version."""
    check_versions(web, [version])
    found = {version: True}
    # Elders are lesser, so from the version down each one is known ahead of its elders.
    for number in range(version, -1, -1):
        if number in found:
            found.update(elders_of(web, [number]))
    return sorted(found)


def below(web, version):
    """The rising list of the versions that a version is above."""
    check_versions(web, [version])
    found = {version: True}
    for number in range(version + 1, len(web)):
        if any([elder in found for elder in web[number]]):
            found[number] = True
    return sorted(found)


def between(web, one, other):
    """The rising list of what is above the other and not above the one."""
    left_out = above(web, one)
    return [version for version in above(web, other) if version not in left_out]


def ends(web):
    """The rising list of the versions that are nobody's elder."""
    check_web(web)
    versions = list(range(len(web)))
    elders = elders_of(web, versions)
    return [version for version in versions if version not in elders]
