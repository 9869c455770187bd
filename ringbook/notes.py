"""Nets written as texts, and texts read back to nets."""

from ringbook.errors import NoNet, NotRead
from ringbook.nets import MOST_PLACES, Net

FIGURES = "0123456789"


def shown_road(start, end):
    return f"{start}>{end}"


def shown(net):
    places = net.places()
    return " ".join([f"{places}:"] + [shown_road(start, end) for start, end in net.roads()])


def is_written_number(text):
    # isdigit would also take figures of other scripts.
    if text == "" or not all([sign in FIGURES for sign in text]):
        return False
    return text == "0" or text[0] != "0"


def read_number(text):
    if not is_written_number(text):
        raise NotRead("a number is written by figures without a nought ahead")
    # Python's int gives up on very long texts with an error of its own.
    if len(text) > len(str(MOST_PLACES)):
        raise NotRead("no net tells so great a number")
    return int(text)


def read_road(text):
    ends = text.split(">")
    if len(ends) != 2:
        raise NotRead("a road is written as two places with one > between")
    return (read_number(ends[0]), read_number(ends[1]))


def read_places(text):
    if not text.endswith(":"):
        raise NotRead("the number of places comes first, with a colon behind it")
    return read_number(text[:-1])


def read(text):
    # Split at single blanks, so that a blank too many leaves an empty part, which is refused.
    parts = text.split(" ")
    places = read_places(parts[0])
    roads = [read_road(part) for part in parts[1:]]
    try:
        return Net(places, roads)
    except NoNet:
        raise NotRead("the text tells what is no net") from None
