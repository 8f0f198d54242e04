"""Watches: they hear deeds in whatever order, and tell the least moment at which all tests are had together."""

from mighthave.errors import Heard, NoHand, NoNumber, NoTests, Unfit
from mighthave.must.must import are_tests_of
from mighthave.run.runs import MOST_DEEDS, MOST_HANDS, is_deed
from mighthave.run.shapes import is_whole
from mighthave.run.steps import joined, letter_taken, stepped
from mighthave.say.own import truths_of


def is_deed_among(many, hand, thing):
    """Whether it has the form of a deed of the hand, a letter to or of another one of so many hands."""
    if not is_deed(thing):
        return False
    act = thing[0]
    return act == () or act[1] < many and act[1] != hand


class Watch:
    """Some hands, tests of them, and the deeds that were heard.

    Of each hand the deeds that stand are its first ones: their row is kept, and their pasts.
    """

    def __init__(self, hands, tests):
        if not is_whole(hands, 1, MOST_HANDS):
            raise NoNumber(hands)
        if not are_tests_of(hands, tests):
            raise NoTests("no tests of so many hands")
        self._hands = hands
        self._tests = tests
        self._heard = {}
        self._rows = [[] for _ in range(hands)]
        self._pasts = [[] for _ in range(hands)]
        self._front = (0,) * hands
        self._letters = 0
        self._token = self._wanted_behind(hands)
        self._told = self._front if self._token is None else None

    def hears(self, hand, place, deed):
        """Hear of one deed: the moment told behind it, or None."""
        self._need_called(hand, place)
        if not is_deed_among(self._hands, hand, deed):
            raise Unfit("no deed of this hand among so many")
        if (hand, place) in self._heard:
            raise Heard("this deed was heard before")
        self._heard[(hand, place)] = deed
        self._let_stand()
        self._go_on()
        return self._told

    def told(self):
        """The least moment at which all tests are had, or None as long as it isn't told."""
        return self._told

    def front(self):
        """The moment up to which the watch has come."""
        return self._front

    def token(self):
        """The hand at which the token is, or None where the moment is told."""
        return self._token

    def letters(self):
        """By how many letters the token has gone from hand to hand."""
        return self._letters

    def stands(self, hand, place):
        """Whether the deed and all that its past has are heard."""
        self._need_called(hand, place)
        return place < len(self._rows[hand])

    def _need_called(self, hand, place):
        """Refuse what is no hand, then what is no place that a deed can have."""
        if not is_whole(hand, 0, self._hands - 1):
            raise NoHand(hand)
        if not is_whole(place, 0, MOST_DEEDS - 1):
            raise NoNumber(place)

    def _let_stand(self):
        """Let each deed stand that has all its past heard now."""
        goes_on = True
        while goes_on:
            goes_on = False
            for hand in range(self._hands):
                while self._can_stand(hand):
                    self._put_behind(hand)
                    goes_on = True

    def _can_stand(self, hand):
        """Whether the hand's next deed is heard, and the letter that it takes, if any, stands."""
        deed = self._heard.get((hand, len(self._rows[hand])))
        if deed is None:
            return False
        letter = letter_taken(deed)
        return letter is None or letter[1] < len(self._rows[letter[0]])

    def _put_behind(self, hand):
        """Put the hand's next deed, and its past, behind those that stand."""
        place = len(self._rows[hand])
        deed = self._heard[(hand, place)]
        past = self._pasts[hand][-1] if place > 0 else (0,) * self._hands
        letter = letter_taken(deed)
        if letter is not None:
            past = joined(past, self._pasts[letter[0]][letter[1]])
        self._rows[hand].append(deed)
        self._pasts[hand].append(stepped(past, hand))

    def _go_on(self):
        """Go on with the front at the token's hand, and with the token from hand to hand, till it waits or tells.

        What the front has stands, so the hand's next deed is the first one that it hasn't.
        """
        while self._token is not None:
            hand = self._token
            if not self._is_so(hand):
                if self._front[hand] == len(self._rows[hand]):
                    return
                self._front = joined(self._front, self._pasts[hand][self._front[hand]])
            else:
                self._token = self._wanted_behind(hand)
                if self._token is None:
                    self._told = self._front
                else:
                    self._letters += 1

    def _is_so(self, hand):
        """Whether the hand's test holds at the front's count."""
        row = self._rows[hand][:self._front[hand]]
        return all([truths_of(row, test)[-1] for each, test in self._tests if each == hand])

    def _wanted_behind(self, hand):
        """The next one of the tests' hands behind this one, round about, whose test isn't so, or None."""
        hands = [each for each, _ in self._tests]
        behind = [each for each in hands if each > hand]
        wanted = [each for each in behind + hands if not self._is_so(each)]
        return wanted[0] if wanted else None

    def __eq__(self, other):
        if not isinstance(other, Watch):
            return False
        if self._hands != other._hands or self._tests != other._tests or self._heard != other._heard:
            return False
        return self._token == other._token and self._letters == other._letters

    def __len__(self):
        return len(self._heard)

    def __repr__(self):
        return f"Watch({self._hands} hands, {len(self._heard)} heard)"
