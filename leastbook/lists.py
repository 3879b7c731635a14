"""Lists of what stands on which page: the contents and the keys of a book."""

from leastbook.books import items_of
from leastbook.least import set_least
from leastbook.setting import pages_with, title_pages


def contents(book, style):
    return title_pages(book, set_least(book, style))


def add_page(pages, page):
    # Pages come rising, so one that is there already is the last.
    if len(pages) == 0 or pages[-1] != page:
        pages.append(page)


def keyed(book, style):
    told = set_least(book, style)
    found = {}
    for block, places in zip(book, told[1:]):
        for key, page in pages_with(items_of(block), places, "key"):
            add_page(found.setdefault(key, []), page)
    return [(key, found[key]) for key in sorted(found)]
