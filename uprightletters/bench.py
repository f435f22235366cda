"""Benches: talks whose doings are done one after another."""

from uprightletters.checks import is_index
from uprightletters.errors import BadNumber, NothingLeft, Waits
from uprightletters.steps import can_be_done, letters_under_way, next_doings


class Trial:
    """For one block: behind it the bench is what it was when it began."""

    def __init__(self, bench):
        self.bench = bench
        self.done = ()
        self.undone = ()

    def __enter__(self):
        self.done = self.bench.done
        self.undone = self.bench.undone
        return self.bench

    def __exit__(self, kind, value, trace):
        self.bench.done = self.done
        self.bench.undone = self.undone


class Bench:
    """A talk whose doings are done one after another."""

    def __init__(self, talk):
        self.talk = talk
        # Both are tuples: a trial keeps them, and what is done meanwhile makes new ones.
        self.done = ()
        self.undone = ()

    def __len__(self):
        return len(self.done)

    def __eq__(self, other):
        return isinstance(other, Bench) and self.talk == other.talk and self.done == other.done

    @property
    def now(self):
        """The cut of the doings that are done."""
        return reached_cut(self.talk, self.done)

    def doings(self):
        """The doings that are done, as they were done."""
        return self.done

    def under_way(self):
        """An ascending tuple of the letters that are sent and not got."""
        return tuple(letters_under_way(self.talk, self.now))

    def do(self, hand):
        """Do the next doing of a hand, and return it."""
        return self.do_all([hand])[0]

    def do_all(self, hands):
        """Do the next doings of some hands, all or none, and return them."""
        if not isinstance(hands, (list, tuple)):
            raise BadNumber(hands)
        told = ()
        for hand in hands:
            told = (*told, found_doing(self.talk, reached_cut(self.talk, self.done + told), hand))
        if len(told) > 0:
            self.done = self.done + told
            self.undone = ()
        return told

    def undo(self):
        """Take back the doing that was done last, and return it."""
        doing = last_of(self.done)
        self.done = self.done[:-1]
        self.undone = (*self.undone, doing)
        return doing

    def redo(self):
        """Do the last doing again that was taken back, and return it."""
        doing = last_of(self.undone)
        self.undone = self.undone[:-1]
        self.done = (*self.done, doing)
        return doing

    def waiting(self):
        """An ascending tuple of the hands whose next doing would get a letter that is not sent."""
        now = self.now
        waits = [doing for doing in next_doings(self.talk, now) if not can_be_done(self.talk, now, doing)]
        return tuple([self.talk.places[doing][0] for doing in waits])

    def trial(self):
        """For one block: behind it the bench is what it was when it began."""
        return Trial(self)


def reached_cut(talk, done):
    """The cut at which some doings are done."""
    return tuple([len([doing for doing in row if doing in done]) for row in talk.rows])


def last_of(doings):
    """The last one of some doings, if there is any."""
    if len(doings) == 0:
        raise NothingLeft()
    return doings[-1]


def found_doing(talk, cut, hand):
    """The next doing of a hand at a cut, if it can be done there."""
    if not is_index(hand, len(talk.rows)) or cut[hand] == len(talk.rows[hand]):
        raise BadNumber(hand)
    doing = talk.rows[hand][cut[hand]]
    if not can_be_done(talk, cut, doing):
        raise Waits(doing[1])
    return doing


def tried(bench, function):
    """Call a function with a bench in a trial, and return what it returns."""
    with bench.trial() as same:
        return function(same)
