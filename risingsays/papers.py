"""Papers that show a closed list: its members, and how each of them is made of the book."""

from risingsays.bringing import is_closed, leads_of, what_is_left
from risingsays.checks import is_tuple
from risingsays.closing import closed_search
from risingsays.making import Maker, makes
from risingsays.sayings import need_book, need_few_sayings, wrong_in_sayings


def closed_paper(book):
    """Return (MEMBERS, LISTS): the closed list, and PARTS by which each member is made of the book."""
    need_book(book)
    search = closed_search(book, ())
    need_few_sayings(search.members)
    # The errors of `made_of` can't come up: on six places there are neither so many unknowns nor so many maps.
    maker = Maker(book, search)
    return (search.told(), tuple([maker.parts_of_recipe(search.recipes[row]) for _, row in search.members]))


def is_closed_paper(book, value):
    """Tell whether a value is members that are made of the book, bring it to nothing and are closed."""
    field, kinds, sayings = need_book(book)
    if not is_tuple(value, 2, 2):
        return False
    members, lists = value
    if wrong_in_sayings(field, kinds, members) is not None or not is_tuple(lists, len(members), len(members)):
        return False
    for (width, terms), parts in zip(members, lists):
        if not makes(book, width, terms, parts):
            return False
    leads = leads_of(members)
    for width, terms in sayings:
        if what_is_left(field, leads, width, terms) != ():
            return False
    return is_closed((field, kinds, members))
