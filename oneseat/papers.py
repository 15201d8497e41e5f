"""Papers: a ride, and why none is shorter."""

from oneseat.errors import BadPaper
from oneseat.houses import ends, greatest, loads, need_house
from oneseat.least import least_rounds, ride_of
from oneseat.lots import lot_of, touched
from oneseat.rides import is_ride, rounds_of
from oneseat.words import is_whole


def split_of(house):
    """Give a split, or None where the least rounds are GREATEST."""
    if least_rounds(house) == greatest(house):
        return None
    return lot_of(house, house[1])


def is_split(house, thing):
    """Tell whether thing is a split of the house."""
    need_house(house)
    floors, start, errands = house
    if not _is_rising(thing, floors) or start not in thing:
        return False
    for errand, end in zip(errands, ends(house)):
        if errand[0] in thing and end not in thing:
            return False
    most = greatest(house)
    for step, load in enumerate(loads(house)):
        if step in thing and (step + 1) % floors not in thing and load < most:
            return False
    return any([floor not in thing for floor in touched(house)])


def paper(house):
    """Give a paper of the house."""
    split = split_of(house)
    if split is None:
        return (ride_of(house), ("step", loads(house).index(greatest(house))))
    return (ride_of(house), ("split", split))


def check_paper(house, paper):
    """Tell the least rounds by the paper, refuse with BadPaper what is none."""
    need_house(house)
    if not isinstance(paper, tuple) or len(paper) != 2:
        raise BadPaper("form")
    ride, why = paper
    if not is_ride(house, ride):
        raise BadPaper("ride")
    many = rounds_of(house, ride)
    if many > greatest(house) + 1:
        raise BadPaper("ride")
    if not _is_why(house, many, why):
        raise BadPaper("why")
    return many


def _is_rising(thing, floors):
    """Tell whether thing is a rising tuple of floors."""
    if not isinstance(thing, tuple):
        return False
    before = -1
    for floor in thing:
        if not is_whole(floor, least=before + 1, most=floors - 1):
            return False
        before = floor
    return True


def _is_why(house, many, why):
    """Tell whether why shows that no ride has fewer than so many rounds."""
    if not isinstance(why, tuple) or len(why) != 2:
        return False
    word, about = why
    if word == "step":
        return is_whole(about, most=house[0] - 1) and loads(house)[about] == many
    return word == "split" and many == greatest(house) + 1 and is_split(house, about)
