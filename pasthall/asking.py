"""The first bad one: the suspects, plans that find it, and the fewest askings."""

from pasthall.errors import NoAsking
from pasthall.webs import above, check_versions, is_version

MOST_SUSPECTS = 10


def suspects(web, bad, goods):
    """The rising list of the versions that may be the first bad one."""
    check_versions(web, [bad] + goods)
    cleared = {}
    for good in goods:
        for version in above(web, good):
            cleared[version] = True
    return [version for version in above(web, bad) if version not in cleared]


def few_suspects(web, bad, goods):
    """The suspects as a tuple; refused where there are none, or too many to go through all plans."""
    found = suspects(web, bad, goods)
    if found == [] or len(found) > MOST_SUSPECTS:
        raise NoAsking("no suspects, or too many")
    return tuple(found)


def askings(web, some):
    """A dict from versions to those of some suspects that are above them, which are left behind a bad answer.

    Versions whose answer is known ahead, or that part the suspects as a lesser one does, are left out.
    """
    parts = {}
    seen = {}
    for version in range(len(web)):
        higher = above(web, version)
        part = tuple([suspect for suspect in some if suspect in higher])
        if 0 < len(part) < len(some) and part not in seen:
            seen[part] = True
            parts[version] = part
    return parts


def left_behind(some, part):
    """Of some suspects those left behind a good answer, and those left behind a bad one, which are in the part."""
    good = tuple([suspect for suspect in some if suspect not in part])
    bad = tuple([suspect for suspect in some if suspect in part])
    return (good, bad)


def best_asking(some, parts, known):
    """A tuple of the fewest askings that find one of some suspects, and the version to ask first, or None for none.

    `known` holds, by the suspects, what was reckoned so far.
    """
    if some not in known:
        known[some] = (0, None) if len(some) == 1 else best_of_all(some, parts, known)
    return known[some]


def best_of_all(some, parts, known):
    """The best asking of two suspects or more, found by going through all versions that part them."""
    best = None
    # Each asking has two answers, so none can do with fewer than would part so many evenly.
    least = (len(some) - 1).bit_length()
    for version in parts:
        left = left_behind(some, parts[version])
        if () in left:
            continue
        many = 1 + max([best_asking(group, parts, known)[0] for group in left])
        if best is None or many < best[0]:
            best = (many, version)
        if many == least:
            break
    return best


def fewest(web, bad, goods):
    """The least length of a plan that holds."""
    some = few_suspects(web, bad, goods)
    return best_asking(some, askings(web, some), {})[0]


def plan_of(some, parts, known):
    """A shortest plan that finds each of some suspects."""
    version = best_asking(some, parts, known)[1]
    if version is None:
        return ("found", some[0])
    left = left_behind(some, parts[version])
    return ("ask", version, plan_of(left[0], parts, known), plan_of(left[1], parts, known))


def plan(web, bad, goods):
    """A plan that holds and is as short as can be."""
    some = few_suspects(web, bad, goods)
    return plan_of(some, askings(web, some), {})


def has_all_versions(web, plan):
    """Whether each version in a plan, asked or found, is one of a web's."""
    return is_version(web, plan[1]) and all([has_all_versions(web, later) for later in plan[2:]])


def finds(plan, suspect, higher):
    """Whether a plan finds a suspect that is the first bad one; `higher` has for each version all above it."""
    left = plan
    while left[0] == "ask":
        left = led(left, [suspect in higher[left[1]]])
    return left[1] == suspect


def plan_holds(web, bad, goods, plan):
    """Whether a plan holds for what is known."""
    found = suspects(web, bad, goods)
    if found == [] or not has_all_versions(web, plan):
        return False
    higher = [above(web, version) for version in range(len(web))]
    return all([finds(plan, suspect, higher) for suspect in found])


def led(plan, answers):
    """What is left of a plan behind answers, True for bad."""
    left = plan
    for answer in answers:
        if left[0] == "found":
            raise NoAsking("an answer behind the end of a plan")
        left = left[3] if answer else left[2]
    return left


def length(plan):
    """The greatest number of askings, one behind the other, in a plan."""
    if plan[0] == "found":
        return 0
    return 1 + max([length(later) for later in plan[2:]])
