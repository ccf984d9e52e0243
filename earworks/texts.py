"""Webs as texts."""

from earworks.errors import BadText, BadWeb
from earworks.webs import Web

# Each number of a web, points or point, is below 10, so that each is one sign.
DIGITS = ("0", "1", "2", "3", "4", "5", "6", "7", "8", "9")


def written_tie(tie):
    return "-".join([str(point) for point in tie])


def written(web):
    return "; ".join([str(web.points)] + [written_tie(tie) for tie in web.ties()])


# By the digits themselves: Python would also take signs, blanks, zeros ahead and the digits of other scripts.
def read_number(text):
    if text not in DIGITS:
        raise BadText("a number is one digit")
    return DIGITS.index(text)


def read_tie(text):
    ends = text.split("-")
    if len(ends) != 2:
        raise BadText("a tie is written one-other")
    return (read_number(ends[0]), read_number(ends[1]))


def read(text):
    if not isinstance(text, str):
        raise BadText("no text")
    parts = text.split("; ")
    points = read_number(parts[0])
    ties = [read_tie(part) for part in parts[1:]]
    try:
        return Web(points, ties)
    except BadWeb:
        raise BadText("no web is written so") from None
