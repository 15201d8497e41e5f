"""Papers: a ride, and why none is shorter."""

from oneseat.arrows import bare_by, ends_of, loads_of, lot_with, lots_of
from oneseat.errors import BadPaper, BadRide
from oneseat.houses import need_house
from oneseat.least import ride_of
from oneseat.lots import touched
from oneseat.rides import steps_of
from oneseat.words import is_whole


def split_of(house):
    """Give a split, or None where the least rounds are GREATEST."""
    need_house(house)
    loads = loads_of(house)
    start = house[1]
    told = lots_of(house, (start,), bare_by(loads, max(loads)))
    if len(told) == 1:
        return None
    return lot_with(told, start)


def is_split(house, thing):
    """Tell whether thing is a split of the house."""
    need_house(house)
    floors, start, errands = house
    if not _is_rising(thing, floors) or start not in thing:
        return False
    for errand, end in zip(errands, ends_of(house)):
        if errand[0] in thing and end not in thing:
            return False
    loads = loads_of(house)
    most = max(loads)
    for step, load in enumerate(loads):
        if step in thing and (step + 1) % floors not in thing and load < most:
            return False
    return any([floor not in thing for floor in touched(house)])


def paper(house):
    """Give a paper of the house."""
    split = split_of(house)
    ride = ride_of(house)
    if split is None:
        loads = loads_of(house)
        return (ride, ("step", loads.index(max(loads))))
    return (ride, ("split", split))


def check_paper(house, paper):
    """Tell the least rounds by the paper, refuse with BadPaper what is none."""
    need_house(house)
    if not isinstance(paper, tuple) or len(paper) != 2:
        raise BadPaper("form")
    ride, why = paper
    try:
        many = steps_of(house, ride) // house[0]
    except BadRide:
        raise BadPaper("ride")
    loads = loads_of(house)
    if many > max(loads) + 1:
        raise BadPaper("ride")
    if not _is_why(house, loads, many, why):
        raise BadPaper("why")
    return many


def _is_rising(thing, floors):
    """Tell whether thing is a rising tuple of floors."""
    if not isinstance(thing, tuple):
        return False
    before = -1
    for floor in thing:
        if not is_whole(floor, least=before + 1, most=floors - 1):
            return False
        before = floor
    return True


def _is_why(house, loads, many, why):
    """Tell whether why shows that no ride has fewer than so many rounds."""
    if not isinstance(why, tuple) or len(why) != 2:
        return False
    word, about = why
    if word == "step":
        return is_whole(about, most=house[0] - 1) and loads[about] == many
    return word == "split" and many == max(loads) + 1 and is_split(house, about)
