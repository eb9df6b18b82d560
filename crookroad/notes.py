"""Texts: a house is written, and read again."""

from crookroad.errors import BadText, RoadError
from crookroad.house import House

FIGURES = "0123456789"
# The greatest number of a house is the top of a point: less than 24 * 40.
LONGEST_NUMBER = 3


def road_row(house, name):
    """The row that tells of a road."""
    return " ".join(["road", name] + [str(height) for height in house.corners_of(name)])


def walker_row(house, name):
    """The row that tells of a walker."""
    whose, (top, bottom) = house.where(name)
    return f"walker {name} {whose} {top} {bottom}"


def house_text(house):
    """The house as a text."""
    roads, walkers = house.names()
    rows = [road_row(house, name) for name in roads] + [walker_row(house, name) for name in walkers]
    return "\n".join(rows)


def number_of(word):
    """The number that the word tells by figures."""
    # Longer ones are refused unread: Python itself does not read very long ones.
    if len(word) < 1 or len(word) > LONGEST_NUMBER or not all([sign in FIGURES for sign in word]):
        raise BadText("there is no number where one is due")
    return int(word)


def take_in(house, row):
    """Brings what the row tells into the house."""
    words = row.split(" ")
    if words[0] == "road" and len(words) > 1:
        house.lay(words[1], [number_of(word) for word in words[2:]])
    elif words[0] == "walker" and len(words) == 5:
        house.place(words[1], words[2], (number_of(words[3]), number_of(words[4])))
    else:
        raise BadText("the row tells of no road and of no walker")


def house_of(text):
    """The house that the rows tell, taken one by one."""
    house = House()
    for row in text.split("\n") if text != "" else []:
        take_in(house, row)
    house.forget()
    return house


def read_house(text):
    """The house that was written as this text."""
    try:
        house = house_of(text)
    except RoadError:
        raise BadText("the text tells of something that no house has") from None
    # Whatever else is wrong (order, noughts, terms) shows when it is written again.
    if house_text(house) != text:
        raise BadText("the text is not written as a house is")
    return house
