"""Fairs: wishes that wait, and groups of them that are done as soon as there are any ([I6] to [I11])."""

from onlywith.bounds import MAX_FACTS
from onlywith.dealings import is_dealing, refusal
from onlywith.errors import BadChange, BadStore, BadWish, NotWaiting, Refused, TooMany, Unfit, WithError
from onlywith.groups import first_group
from onlywith.histories import store_at
from onlywith.kept import touched
from onlywith.lots import lot_change
from onlywith.papers import no_paper
from onlywith.stores import changed, store_error
from onlywith.terms import is_integer
from onlywith.wishes import wish_error

# A store without relations.
EMPTY = ((), ())


class Course:
    """All that a fair is at some time.

    A fair never changes its course: it goes on with a copy of it, and takes this one when all is done.
    So a call that raises on the way leaves nothing behind, and fairs can share a course.
    """

    def __init__(self, history, store):
        self.history = history
        self.now = store
        # The pool, and the pairs (number, till) of those in it that have a till.
        self.waiting = ()
        self.limits = ()
        self.happened = ()
        self.askings = 0
        # The number of the next wish.
        self.coming = 0

    def further(self):
        """A course that begins as this one is."""
        course = Course(self.history, self.now)
        course.waiting = self.waiting
        course.limits = self.limits
        course.happened = self.happened
        course.askings = self.askings
        course.coming = self.coming
        return course

    def last(self):
        """The last version."""
        return len(self.history[1])

    def tell(self, events):
        """Lets events happen."""
        self.happened = self.happened + tuple(events)

    def leave(self, numbers):
        """Takes wishes out of the pool."""
        self.waiting = tuple([pair for pair in self.waiting if pair[0] not in numbers])
        self.limits = tuple([pair for pair in self.limits if pair[0] not in numbers])

    def come(self, wish, till):
        """Lets a wish come; returns its number."""
        number = self.coming
        self.coming = number + 1
        if till is not None and till <= self.last():
            self.tell([("alone", self.last(), number)])
            return number
        self.waiting = self.waiting + ((number, wish),)
        if till is not None:
            self.limits = self.limits + ((number, till),)
        self.askings += 1
        self.rest()
        return number

    def back(self, number):
        """Takes a wish back that waits."""
        self.leave([number])
        self.tell([("back", self.last(), number)])

    def plain(self, change):
        """Does a change that closes; returns its version."""
        self.grow(change)
        version = self.last()
        self.tell([("plain", version)])
        self.end(change)
        self.rest()
        return version

    def rest(self):
        """Closes the first group as long as there is one."""
        group = first_group(self.now, self.waiting)
        while group is not None:
            self.close(group)
            group = first_group(self.now, self.waiting)

    def close(self, group):
        """Does a group."""
        change = lot_change(self.waiting, group)
        self.grow(change)
        numbers = [number for number, _ in group]
        self.tell([
            ("done", self.last(), number, filling, tuple([other for other in numbers if other != number]))
            for number, filling in group
        ])
        self.leave(numbers)
        self.end(change)

    def grow(self, change):
        """Makes the next version."""
        store, changes = self.history
        try:
            self.now = changed(self.now, change)
        except BadChange:
            # A change that closes is right, and a group keeps the keys: all that it can do is bring too much.
            raise TooMany(MAX_FACTS) from None
        self.history = (store, changes + (change,))

    def end(self, change):
        """Ends a closing, behind what was done: tells wishes alone, and asks others anew."""
        version = self.last()
        late = [number for number, till in self.limits if till <= version]
        self.leave(late)
        self.tell([("alone", version, number) for number in late])
        self.askings += len(touched(self.now[0], self.waiting, change))


class Fair:
    """A store with its history, and a pool of wishes that wait; at rest there is no group of these."""

    def __init__(self, store):
        error = store_error(store)
        if error is not None:
            raise BadStore(error)
        self._course = Course((store, ()), store)

    @property
    def store(self):
        """The store at the last version."""
        return self._course.now

    @property
    def version(self):
        """The last version."""
        return len(self._course.history[1])

    @property
    def pool(self):
        """The pool of the wishes that wait."""
        return self._course.waiting

    @property
    def tills(self):
        """The pairs (number, till) of the wishes that wait and have a till, ascending."""
        return self._course.limits

    @property
    def events(self):
        """All events so far, in order."""
        return self._course.happened

    @property
    def asked(self):
        """How often fillings were asked anew."""
        return self._course.askings

    def paper(self):
        """A paper of a no for the store and the pool."""
        return no_paper(self._course.now, self._course.waiting)

    def at(self, version):
        """The store at a version, any value."""
        return store_at(self._course.history, version)

    def come(self, wish, till=None):
        """Lets a wish, any value, wait up to a version; returns its number ([I7])."""
        error = wish_error(self._course.now[0], wish)
        if error is not None:
            raise BadWish(error)
        if till is not None and not is_integer(till):
            raise Unfit()
        course = self._course.further()
        number = course.come(wish, till)
        self._course = course
        return number

    def back(self, number):
        """Takes a wish that waits out of the pool; number may be any value ([I7])."""
        if not is_integer(number) or number not in [waiting for waiting, _ in self._course.waiting]:
            raise NotWaiting(number)
        course = self._course.further()
        course.back(number)
        self._course = course

    def plain(self, dealing):
        """Closes a dealing, any value; returns the version that this makes ([I7])."""
        if not is_dealing(self._course.now[0], dealing):
            raise Unfit()
        error = refusal(self._course.history, dealing)
        if error is not None:
            raise Refused(error)
        course = self._course.further()
        version = course.plain(dealing[2])
        self._course = course
        return version

    def copy(self):
        """A fair like this one, which goes its own way from here on ([I10])."""
        fair = Fair(EMPTY)
        fair._course = self._course
        return fair

    def attempt(self, work):
        """What work tells of this fair; if it raises an error of the package, all is as ahead of it ([I10])."""
        ahead = self._course
        try:
            return work(self)
        except WithError:
            self._course = ahead
            raise


def parts_of(fair):
    """The store at version 0, the changes, the pool, the tills, the events and asked of a fair."""
    course = fair._course
    return course.history + (course.waiting, course.limits, course.happened, course.askings)


def fair_of(parts):
    """The fair of which these are the parts."""
    store, changes, pool, tills, events, asked = parts
    history = (store, changes)
    course = Course(history, store_at(history, len(changes)))
    course.waiting = pool
    course.limits = tills
    course.happened = events
    course.askings = asked
    # Each wish that came waits still, or there is just one event that tells what became of it.
    course.coming = len(pool) + len([event for event in events if event[0] != "plain"])
    fair = Fair(store)
    fair._course = course
    return fair
