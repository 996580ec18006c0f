"""Closing: the search of the closed list of a book, level by level."""

from risingsays.bringing import Leads, meeting_coefs, meetings, whole_of_numbers, worked_on
from risingsays.checks import is_within, need_rising
from risingsays.errors import BadParameter, TooGreat
from risingsays.numbers import ONE, product_of, quotient_of
from risingsays.sayings import MOST_WIDTH, in_order, made_whole, need_book, need_few_sayings, rank_with

MOST_LEVEL = 12
MOST_STEPS = 5000


def closed_book(book):
    """Return the book that has the closed list for its sayings."""
    need_book(book)
    return closed_by(book, ())


def closed_hidden(book, hidden):
    """Return the closed book for the order in which the unknowns of the hidden kinds are greater than all others."""
    need_book(book)
    need_rising(hidden, len(book[1]))
    return closed_by(book, hidden)


def closing_after(book, steps):
    """Return the state of the search behind so many steps, or behind the last one."""
    need_book(book)
    if not is_within(steps, 0, MOST_STEPS):
        raise BadParameter(steps)
    search = Search(book, (), MOST_WIDTH, MOST_LEVEL)
    for _ in range(steps):
        search.step()
    return (search.level, search.told(), tuple([terms for terms, _ in search.left]))


def closed_search(book, ahead):
    """Return the search of a checked book's closed list, at its end; refuse members of more than six places."""
    return searched(book, ahead, MOST_WIDTH, MOST_LEVEL)


def searched(book, ahead, most, last):
    """Return a search at its end."""
    search = Search(book, ahead, most, last)
    while not search.ended:
        search.step()
    return search


def closed_by(book, ahead):
    """Return the closed book of a checked one by the order in which the kinds ahead are the greater ones."""
    search = closed_search(book, ahead)
    need_few_sayings(search.members)
    return (book[0], book[1], search.told())


class Search:
    """The search of the members of a book's closed list, those of a level behind those of the one before.

    Leads are by the order in which the unknowns of the kinds `ahead` are greater than all others, and the members'
    terms stand in this order here. Members of more than `most` places are refused; `last` is the last level.

    Rows are the book's sayings, by their numbers, then the members as they were at any time. `recipes` tells for each
    of the latter how it is made: a list of (NUMBER, ROW, PLACES), the number times the earlier row carried by the map.
    """

    def __init__(self, book, ahead, most, last):
        self.field, _, self.sayings = book
        self.ahead = ahead
        self.most = most
        self.last = last
        self.level = 0
        self.ended = False
        # Pairs of a saying and the number of its row.
        self.members = []
        self.recipes = [[] for _ in self.sayings]
        self.leads = Leads(ahead)
        # For each level to come, how members meet on as many places, in the order of the members.
        self.to_meet = {}
        # Pairs of whole terms and how they are made.
        self.left = self.things_of_sayings()

    def told(self):
        """Return the members as sayings with their terms as they are always written."""
        return tuple([(width, self.written(terms)) for (width, terms), _ in self.members])

    def written(self, terms):
        """Return terms as they are always written, whole."""
        return made_whole(self.field, in_order(terms))

    def step(self):
        """Do one step; nothing at the end."""
        if len(self.left) > 0:
            self.work_on_first()
        elif not self.ended:
            self.finish_level()

    def work_on_first(self):
        """Bring the first thing that is left down; make what stays of it a member."""
        terms, recipe = self.left.pop(0)
        left, taken = worked_on(self.field, self.leads, self.level, terms)
        if len(left) > 0:
            if self.level > self.most:
                raise TooGreat(self.most)
            member = self.new_row(left, recipe + taken)
            self.members.append(member)
            self.leads.take_in(member[1], member[0])

    def new_row(self, numbers, recipe):
        """Return the whole saying of these numbers, with the number of the row that is made so."""
        terms, recipe = self.thing(numbers, recipe)
        self.recipes.append(recipe)
        return ((self.level, terms), len(self.recipes) - 1)

    def thing(self, numbers, recipe):
        """Return the whole terms of what has these numbers and is made so, and how they are made themselves."""
        terms = whole_of_numbers(self.field, numbers, self.ahead)
        if len(terms) == 0:
            return ((), [])
        coef, kind, places = terms[0]
        factor = quotient_of(self.field, (coef, 1), numbers[(kind, places)])
        return (terms, [(product_of(self.field, factor, number), row, chosen) for number, row, chosen in recipe])

    def finish_level(self):
        """Finish the members of the level, go to the next one."""
        start = len([1 for saying, _ in self.members if saying[0] < self.level])
        if start < len(self.members):
            done = [self.finished(saying, row) for saying, row in self.members[start:]]
            self.members[start:] = sorted(done, key=lambda member: self.lead_rank(member[0]))
            self.leads = Leads(self.ahead)
            for saying, row in self.members:
                self.leads.take_in(row, saying)
            self.foresee_meetings(start)
        if self.level == self.last:
            self.ended = True
        else:
            self.level += 1
            self.left = self.things_of_sayings() + self.things_of_meetings()

    def finished(self, saying, row):
        """Return a member of the level with all terms but the lead's brought down."""
        coef, kind, places = saying[1][0]
        # The member itself takes no part in this: its lead is greater than all that comes up here.
        left, taken = worked_on(self.field, self.leads, self.level, saying[1][1:])
        if len(taken) == 0:
            return (saying, row)
        left[(kind, places)] = (coef, 1)
        return self.new_row(left, [(ONE, row, tuple(range(self.level)))] + taken)

    def lead_rank(self, saying):
        """Return the rank of a member's lead."""
        return rank_with(self.ahead, saying[1][0][1], saying[1][0][2])

    def foresee_meetings(self, start):
        """Put down, by levels, how the members from this number on meet themselves and those ahead of them."""
        sayings = [saying for saying, _ in self.members]
        for at in range(start, len(sayings)):
            for many, places, at_other, others in meetings(sayings, at):
                # No level is foreseen but those to come: on its own places no other member reaches a member's lead.
                if many <= self.last:
                    self.to_meet.setdefault(many, []).append((at, places, at_other, others))

    def things_of_sayings(self):
        """Return what the book's sayings with the level for their width give to do."""
        found = []
        for row, (width, terms) in enumerate(self.sayings):
            if width == self.level:
                numbers = {(kind, places): (coef, 1) for coef, kind, places in terms}
                found.append(self.thing(numbers, [(ONE, row, tuple(range(width)))]))
        return found

    def things_of_meetings(self):
        """Return what the members' meetings on as many places as the level give to do."""
        found = []
        for at, places, at_other, others in self.to_meet.get(self.level, []):
            saying, row = self.members[at]
            other, other_row = self.members[at_other]
            coefs = meeting_coefs(saying, places, other, others)
            numbers = {unknown: (coef, 1) for unknown, coef in coefs.items()}
            recipe = [((other[1][0][0], 1), row, places), ((-saying[1][0][0], 1), other_row, others)]
            terms, recipe = self.thing(numbers, recipe)
            if terms != ():
                found.append((terms, recipe))
        return found
