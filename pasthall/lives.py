"""The lives of a line: all lines to which it goes on."""

from pasthall.webs import below
from pasthall.whence import check_line, sources


def lives(history, version, path, place):
    """The rising list of the lines, (version, place), in whose chains a line is."""
    check_line(history, version, path, place)
    found = {(version, place): True}
    for number in below(history.web(), version):
        if path in history.tree(number):
            for later, source in enumerate(sources(history, number, path)):
                if source in found:
                    found[(number, later)] = True
    return sorted(found)
