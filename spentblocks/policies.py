"""Policies: what they tell, how many puts they are sure to serve, and with which keys and replies they end."""

from spentblocks.advisers import is_policy, told_act
from spentblocks.courses import least_end, policy_game
from spentblocks.errors import NoActs, NoNumber, NoPolicy, NotAsked
from spentblocks.moves import is_served, let_replies, shape_asked, shape_behind
from spentblocks.parts import is_count, is_key


def policy_act(stand, policy):
    """The act that the policy tells for an asked stand."""
    if stand.asked() is None:
        raise NotAsked()
    if not is_policy(policy):
        raise NoPolicy()
    act = told_act(stand.shape(), policy)
    if act is None:
        raise NoActs()
    return act


def policy_life(stand, policy, *, most=20000):
    """The greatest number of puts that the policy is sure to serve; None for ever."""
    end = policy_end(stand, policy, most)
    return None if end is None else end[0]


def policy_row(stand, policy, *, most=20000):
    """A row of keys and replies with which the policy ends behind just so many puts; None for ever."""
    end = policy_end(stand, policy, most)
    return None if end is None else end[1]


def policy_end(stand, policy, most):
    """How the policy ends behind the fewest puts, a tuple (puts served, row); None for ever."""
    if not is_policy(policy):
        raise NoPolicy()
    return least_end(policy_game(stand, policy, most))


def policy_fault(stand, policy, n, thing):
    """The first fault of the thing as a row with which the policy ends behind n puts, or None."""
    if not is_policy(policy):
        raise NoPolicy()
    if not is_count(n):
        raise NoNumber()
    if not isinstance(thing, list):
        return ("form",)
    course = Course(stand.shape(), policy)
    for index, item in enumerate(thing):
        if not course.lets(item):
            return ("item", index)
        course.go_on(item)
    if not course.is_over():
        return ("end",)
    return None if course.served == n else ("number", course.served)


class Course:
    """Where a policy stands on its way from a shape on, and how many puts it has served."""

    def __init__(self, shape, policy):
        self.served = 0
        self._policy = policy
        self._seen = {}
        self._reach(shape)

    def _reach(self, shape):
        self._shape = shape
        self._act = told_act(shape, self._policy)

    def is_over(self):
        """Whether there is no act, or the shape was there before since the last put was asked."""
        return self._shape[4] is not None and (self._act is None or self._shape in self._seen)

    def lets(self, item):
        """Whether this can come next: a key at rest, a let reply to the policy's act otherwise."""
        if self._shape[4] is None:
            return is_key(item, self._shape[0])
        return not self.is_over() and item in let_replies(self._shape[2], self._shape[3])

    def go_on(self, item):
        """Goes on behind what can come next."""
        shape, act = self._shape, self._act
        if shape[4] is None:
            self._seen = {}
            self._reach(shape_asked(shape, item))
            return
        self._seen[shape] = True
        self.served += 1 if is_served(act, item) else 0
        self._reach(shape_behind(shape, act, item))
