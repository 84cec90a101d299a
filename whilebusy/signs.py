"""Signs: conditions as objects, put together and compared by operators."""

from whilebusy.errors import InvalidCondition, OtherHouse
from whilebusy.houses import JOINING, busy_of, check_condition, check_house
from whilebusy.reach import fewest_works, never, same, within
from whilebusy.runs import holds, is_run


class Sign:
    """A condition over the shared things of a house."""

    def __init__(self, house, condition):
        check_house(house)
        check_condition(house, condition)
        self._house = house
        self._condition = condition

    @property
    def house(self):
        """The house that the sign stands on."""
        return self._house

    @property
    def condition(self):
        """The condition that tells whether the sign is seen."""
        return self._condition

    @classmethod
    def busy(cls, house):
        """Return the sign that some work of any kind is under way."""
        return cls(house, busy_of(house))

    def __call__(self, run):
        """Tell whether the condition holds behind the run."""
        return holds(self._house, run, self._condition)

    def __contains__(self, x):
        """Tell whether any value is a run behind which the condition holds."""
        return is_run(self._house, x) and holds(self._house, x, self._condition)

    def least(self):
        """Return the least number of works in a run behind which the condition holds, or None."""
        return fewest_works(self._house, self._condition)

    def __bool__(self):
        return not never(self._house, self._condition)

    def __invert__(self):
        return Sign(self._house, ("not", self._condition))

    def __and__(self, other):
        return Sign(self._house, ("and", (self._condition, beside(self, other))))

    def __rand__(self, other):
        return Sign(self._house, ("and", (beside(self, other), self._condition)))

    def __iand__(self, other):
        self._condition = ("and", (self._condition, beside(self, other)))
        return self

    def __or__(self, other):
        return Sign(self._house, ("or", (self._condition, beside(self, other))))

    def __ror__(self, other):
        return Sign(self._house, ("or", (beside(self, other), self._condition)))

    def __ior__(self, other):
        self._condition = ("or", (self._condition, beside(self, other)))
        return self

    def __xor__(self, other):
        return Sign(self._house, ("odd", (self._condition, beside(self, other))))

    def __rxor__(self, other):
        return Sign(self._house, ("odd", (beside(self, other), self._condition)))

    def __ixor__(self, other):
        self._condition = ("odd", (self._condition, beside(self, other)))
        return self

    def __eq__(self, other):
        if not isinstance(other, Sign):
            return False
        return self._house == other.house and same(self._house, self._condition, other.condition)

    def __ne__(self, other):
        return not self == other

    def __le__(self, other):
        if not isinstance(other, Sign):
            return NotImplemented
        check_same_house(self, other)
        return within(self._house, self._condition, other.condition)

    def __lt__(self, other):
        if not isinstance(other, Sign):
            return NotImplemented
        check_same_house(self, other)
        return self <= other and not other <= self


def joined(first, *others, word="or"):
    """Return the sign with the word and the conditions of all the signs, in their sequence."""
    for other in others:
        check_same_house(first, other)
    if not isinstance(word, str) or word not in JOINING:
        raise InvalidCondition("the word is none of these: and, or, odd")
    signs = [first, *others]
    return Sign(first.house, (word, tuple([sign.condition for sign in signs])))


def beside(sign, other):
    """Return the condition that the other operand of an operator stands for."""
    if isinstance(other, bool):
        return ("say", other)
    check_same_house(sign, other)
    return other.condition


def check_same_house(sign, other):
    """Raise OtherHouse if the two signs stand on unlike houses."""
    if sign.house != other.house:
        raise OtherHouse("these signs stand on unlike houses")
