"""Sessions: errands come and go while the seat goes round."""

from oneseat.arrows import barred_of, least_of, moves_there, way_on
from oneseat.errors import BadDeed, BadErrand, Gone, NoErrand, TooMany
from oneseat.words import MOST_ERRANDS, MOST_FLOORS, is_errand, is_whole, need_whole


class Session:
    """A ring, the seat on it, and the errands that wait, called by numbers that are given once."""

    def __init__(self, floors, *, start=0):
        need_whole(floors, least=2, most=MOST_FLOORS)
        need_whole(start, most=floors - 1)
        self._floors = floors
        self._start = start
        self._floor = start
        self._gone = 0
        self._come = 0
        self._waits = {}
        self._deeds = []

    def come(self, errand):
        """Let an errand come, and tell its number."""
        if not is_errand(errand, floors=self._floors):
            raise BadErrand("this is no errand of this ring")
        if len(self._waits) == MOST_ERRANDS:
            raise TooMany(MOST_ERRANDS)
        begin, steps = errand
        number = self._come
        self._come += 1
        self._waits[number] = (begin, steps)
        self._deeds.append(("come", (begin, steps)))
        return number

    def off(self, number):
        """Call an errand off: it waits no more."""
        self._need_waiting(number)
        del self._waits[number]
        self._deeds.append(("off", number))

    def move(self, move):
        """Let the seat go a bare step, or carry the errand of that number to its end."""
        steps = self._steps_of(move)
        if move is not None:
            del self._waits[move]
        self._floor = (self._floor + steps) % self._floors
        self._gone += steps
        self._deeds.append(("move", move))

    def at(self):
        """Tell the floor where the seat stands."""
        return self._floor

    def gone(self):
        """Tell how many steps the seat has gone."""
        return self._gone

    def waiting(self):
        """Tell what waits: a dict from numbers, rising, to errands."""
        return dict(self._waits)

    def house_now(self):
        """Give the house of what waits, its start the session's."""
        return (self._floors, self._start, tuple(self._waits.values()))

    def left(self):
        """Tell the fewest steps to do all that waits and be at the start."""
        house, left = self._under_way()
        _, spare, waiting = left
        return sum(spare) + sum([house[2][number][1] for number in waiting])

    def costs(self, move):
        """Tell how many steps more than left() it comes to by that move: none, or those of a round."""
        self._steps_of(move)
        return 0 if move in self.free_moves() else self._floors

    def free_moves(self):
        """Tell the moves that can be done and cost none, None ahead of numbers, these rising."""
        house, left = self._under_way()
        bars = barred_of(house, left)
        return self._called([move for move in moves_there(house, left) if move not in bars])

    def way_home(self):
        """Give moves of left() steps that do all that waits and lead to the start."""
        house, left = self._under_way()
        return self._called(way_on(house, left))

    def journal(self):
        """Tell all deeds in order."""
        return tuple(self._deeds)

    def twin(self):
        """Give another session that tells all alike, and goes on by itself."""
        other = Session(self._floors, start=self._start)
        other._floor = self._floor
        other._gone = self._gone
        other._come = self._come
        other._waits = dict(self._waits)
        other._deeds = list(self._deeds)
        return other

    def __eq__(self, other):
        if not isinstance(other, Session):
            return False
        if self._floors != other._floors or self._start != other._start or self._floor != other._floor:
            return False
        return self._waits == other._waits

    def __len__(self):
        return len(self._waits)

    def _need_waiting(self, number):
        """Refuse with NoErrand what is no number of an errand that waits."""
        if not is_whole(number) or number not in self._waits:
            raise NoErrand(number)

    def _steps_of(self, move):
        """Tell how many steps a move goes; refuse one that can't be done."""
        if move is None:
            return 1
        if not is_whole(move, least=None):
            raise BadDeed("this is neither a bare step nor a number of an errand")
        self._need_waiting(move)
        begin, steps = self._waits[move]
        if begin != self._floor:
            raise Gone("this errand waits elsewhere")
        return steps

    def _under_way(self):
        """Give the house with an errand more, from the start to where the seat stands, and what is left behind it.

        The errand more is the last one and taken first, so that what is left
        is what the seat has yet to do; at the start there is none.
        """
        floors, start, errands = self.house_now()
        steps = (self._floor - start) % floors
        more = errands if steps == 0 else errands + ((start, steps),)
        house = (floors, start, more)
        return house, (self._floor, least_of(house)[1], tuple(range(len(errands))))

    def _called(self, moves):
        """Give the moves with errands called by the numbers by which they wait."""
        numbers = list(self._waits)
        return tuple([move if move is None else numbers[move] for move in moves])
