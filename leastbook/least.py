"""The least and the greatest rooms: each reference has just what its page asks for."""

from leastbook.books import look, refs, room_at_most
from leastbook.places import figures
from leastbook.setting import label_pages, set_book


def figures_told(book, style, rooms):
    pages = label_pages(book, set_book(book, style, rooms))
    return [figures(pages[label]) for label in refs(book)]


# More room sets nothing earlier. So from rooms of 1 each step only adds, from
# the most room each step only takes away, and the first right rooms that are
# reached are the least or the greatest of all.
def settled(book, style, first):
    rooms = first
    wanted = figures_told(book, style, rooms)
    while wanted != rooms:
        rooms = wanted
        wanted = figures_told(book, style, rooms)
    return rooms


def needed(book, style, rooms):
    look(book, style)
    return figures_told(book, style, rooms)


def least(book, style):
    look(book, style)
    return settled(book, style, [1] * len(refs(book)))


def greatest(book, style):
    look(book, style)
    return settled(book, style, [room_at_most(book, style)] * len(refs(book)))


def sole(book, style):
    return least(book, style) == greatest(book, style)


def set_least(book, style):
    return set_book(book, style, least(book, style))
