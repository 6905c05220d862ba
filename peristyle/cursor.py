"""A place in the things of a query while it is read ([4.4], [4.6])."""

from peristyle.errors import BadText, TooMuch
from peristyle.words import is_reserved, read_things

MOST_NESTED = 12
MOST_LISTS = 60
GREATEST_NUMBER = 2000
QUERY_WORDS = ("SELECT", "VALUES", "WITH")


class Cursor:
    """Reads things from the left; what may not stand where it stands is refused by BadText.

    A thing is (what, worth, at): what is a reserved word in capital letters or a mark, or else "name",
    "number", "text" or "end".
    """

    def __init__(self, text, read_query):
        self.things = _things(text)
        self.now = 0
        self.nested = 0
        self.lists = 0
        # Expressions need queries and queries need expressions, which stand in two files.
        self.read_query = read_query

    def place(self):
        """Where the next thing begins."""
        return self.things[self.now][2]

    def what(self):
        """What the next thing is."""
        return self.things[self.now][0]

    def sees(self, what):
        """Tell whether the next thing is such a one."""
        return self.things[self.now][0] == what

    def sees_all(self, whats):
        """Tell whether the next things are these, one after the other."""
        return [thing[0] for thing in self.things[self.now:self.now + len(whats)]] == list(whats)

    def sees_query(self):
        """Tell whether the next thing is a word that begins a query."""
        return self.what() in QUERY_WORDS

    def sees_query_behind(self):
        """Tell whether the thing behind the next one is such a word."""
        return self.things[self.now + 1][0] in QUERY_WORDS

    def skip(self):
        """Go on behind the next thing."""
        self.now += 1

    def take(self, what):
        """Go on if the next thing is such a one; tell whether it is."""
        if not self.sees(what):
            return False
        self.now += 1
        return True

    def need(self, what):
        """Go on behind the next thing, which must be such a one; tell its worth."""
        if not self.sees(what):
            raise BadText(self.place())
        self.now += 1
        return self.things[self.now - 1][1]

    def need_one(self, whats):
        """Go on behind the next thing, which must be one of these; tell which."""
        if self.what() not in whats:
            raise BadText(self.place())
        self.now += 1
        return self.things[self.now - 1][0]

    def need_small_number(self):
        """Go on behind a number of LIMIT, OFFSET or an edge; tell it."""
        place = self.place()
        number = self.need("number")
        if number > GREATEST_NUMBER:
            raise BadText(place)
        return number

    def enter(self, place):
        """Begin something that is counted when it is nested."""
        if self.nested == MOST_NESTED:
            raise BadText(place)
        self.nested += 1

    def leave(self):
        """End what was begun last."""
        self.nested -= 1

    def enter_list(self):
        """Begin a list of IN."""
        if self.lists == MOST_LISTS:
            raise TooMuch()
        self.lists += 1

    def leave_list(self):
        """End the list of IN that was begun last."""
        self.lists -= 1


def _things(text):
    found = []
    end = len(text)
    try:
        read_things(text, found)
    except BadText as mistake:
        # A mistake further to the left goes first, so what is no thing counts as the end.
        end = mistake.at
    things = [_sorted_out(thing) for thing in found]
    # Twice, since one thing behind the next one is looked at.
    return things + [("end", None, end), ("end", None, end)]


def _sorted_out(thing):
    sort, worth, at = thing
    if sort == "mark":
        return (worth, worth, at)
    if sort == "word":
        return (worth.upper(), worth, at) if is_reserved(worth) else ("name", worth, at)
    return thing
