"""The desk: floors under names, the promises that they keep, and all deeds, which can be taken back."""

from overfloors.errors import BadName, Barred, NoFloor, NoLetter, NoPromise, NothingToUndo, Taken, TooMany
from overfloors.formulas import Formula
from overfloors.tiles import is_word


def is_name_in(value, told):
    """True if a value is a name in a dict; not all values could be asked for there."""
    return is_word(value) and value in told


def ascending_names(told):
    """The names in a dict, ascending."""
    return sorted([str(name) for name in told])


def holds(promise, floors):
    """True if a promise is kept by floors, and tells of nothing that is not there."""
    try:
        return promise.is_kept(floors)
    except (NoFloor, NoLetter, TooMany):
        return False


class Desk:
    """Floors and promises under names."""

    def __init__(self):
        # What stands here, behind all that stood here before. Neither the tuples nor the dicts
        # are ever changed, so that to go back it is enough to take earlier ones.
        self._states = (({}, {}),)

    def put(self, name, floor):
        """Lays a floor under a name, in the place of an earlier one."""
        if not is_word(name):
            raise BadName(name)
        floors, _ = self._states[-1]
        self._lay({**floors, name: floor})

    def take(self, name):
        """Takes a floor away."""
        self._check_floor(name)
        floors, _ = self._states[-1]
        self._lay({one: floors[one] for one in floors if one != name})

    def slide(self, name, point):
        """Moves a floor by a point."""
        self._check_floor(name)
        floors, _ = self._states[-1]
        self._lay({**floors, name: floors[name].shifted(point)})

    def move_all(self, motion):
        """Moves all floors by a motion."""
        floors, _ = self._states[-1]
        self._lay({name: floors[name].moved(motion) for name in floors})

    def keep(self, name, promise):
        """Adds a promise, which must be kept from now on."""
        if not is_word(name):
            raise BadName(name)
        floors, promises = self._states[-1]
        if name in promises:
            raise Taken(name)
        if not promise.is_kept(floors):
            raise Barred([name])
        self._states = (*self._states, (floors, {**promises, name: promise}))

    def free(self, name):
        """Takes a promise away."""
        floors, promises = self._states[-1]
        if not is_name_in(name, promises):
            raise NoPromise(name)
        left = {one: promises[one] for one in promises if one != name}
        self._states = (*self._states, (floors, left))

    def floors(self):
        """The names of the floors, ascending."""
        return tuple(ascending_names(self._states[-1][0]))

    def promises(self):
        """The names of the promises, ascending."""
        return tuple(ascending_names(self._states[-1][1]))

    def places(self, text):
        """The set of a formula."""
        return Formula(text).places(self._states[-1][0])

    def undo(self):
        """Takes the last deed back."""
        if self.undoable() == 0:
            raise NothingToUndo()
        self._states = self._states[:-1]

    def undoable(self):
        """How many deeds can be taken back."""
        return len(self._states) - 1

    def attempt(self, action):
        """What an action makes of the desk; if an error leaves it, it has done nothing."""
        states = self._states
        ended = None
        try:
            result = action(self)
            ended = True
        finally:
            if ended is None:
                self._states = states
        return result

    def explore(self, action):
        """What an action would make of the desk, which stays as it is."""
        states = self._states
        try:
            return action(self)
        finally:
            self._states = states

    def _check_floor(self, name):
        """Raises an error unless there is a floor of a name."""
        if name not in self:
            raise NoFloor(name)

    def _lay(self, floors):
        """Makes these the floors of the desk, unless promises bar it."""
        _, promises = self._states[-1]
        broken = [name for name in ascending_names(promises) if not holds(promises[name], floors)]
        if len(broken) > 0:
            raise Barred(broken)
        self._states = (*self._states, (floors, promises))

    def __contains__(self, name):
        return is_name_in(name, self._states[-1][0])

    def __getitem__(self, name):
        if name not in self:
            raise NoFloor(name)
        return self._states[-1][0][name]

    def __iter__(self):
        raise TypeError("a desk is not iterated over")

    def __len__(self):
        return len(self._states[-1][0])
