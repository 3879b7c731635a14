"""Setting a book with a told room for each of its references."""

from leastbook.books import is_set, is_titled, items_of, label_of, look, refs
from leastbook.places import LISTED, PAGE, bare, end_line, new_chapter, put_block, put_plates, put_word


def set_contents(book, style):
    places = []
    state = bare(1)
    if not style[LISTED]:
        return (places, state)
    for block in book:
        if is_titled(block):
            put = put_block(style, state, 1, 0)
            places.append(put[0])
            state = put[1]
    if len(places) > 0:
        state = new_chapter(style, state)
    return (places, state)


def set_items(items, style, state, rooms):
    places = []
    refs_set = 0
    for item in items:
        if is_set(item):
            if item[0] == "ref":
                size = len(item[2]) + rooms[refs_set] + len(item[3])
                put = put_word(style, state, size, 0)
                refs_set += 1
            else:
                put = put_word(style, state, len(item[1]), len(item[2]))
            places.append(put[0])
            state = put[1]
    return (places, end_line(state))


def set_block(block, style, state):
    if block[0] == "plates":
        return put_plates(state, block[1])
    if block[0] == "table":
        return put_block(style, state, len(block[1]), 0)
    if block[0] == "heading":
        return put_block(style, state, 1, block[2])
    return put_block(style, new_chapter(style, state), 1, 0)


# Apart from laid, so that a book that was looked at can be set again and again.
def set_book(book, style, rooms):
    put = set_contents(book, style)
    told = [put[0]]
    state = put[1]
    refs_set = 0
    for block in book:
        if block[0] == "para":
            put = set_items(block[1], style, state, rooms[refs_set:])
            told.append(put[0])
            refs_set += len(refs([block]))
        else:
            put = set_block(block, style, state)
            told.append([put[0]])
        state = put[1]
    return told


def pages_with(items, places, kind):
    found = []
    words_set = 0
    for item in items:
        if is_set(item):
            words_set += 1
        elif item[0] == kind:
            # A mark or key stands with the word that is set next.
            found.append((item[1], places[words_set][PAGE]))
    return found


def label_pages(book, told):
    pages = {}
    for block, places in zip(book, told[1:]):
        if label_of(block) != "":
            pages[label_of(block)] = places[0][PAGE]
        for label, page in pages_with(items_of(block), places, "mark"):
            pages[label] = page
    return pages


def title_pages(book, told):
    titles = []
    for block, places in zip(book, told[1:]):
        if is_titled(block):
            titles.append((block[1], places[0][PAGE]))
    return titles


def laid(book, style, rooms):
    look(book, style)
    return set_book(book, style, rooms)


def pages_of(book, style, rooms):
    return label_pages(book, laid(book, style, rooms))
