"""Books: what stands in them, how many pages they may take, and which are refused."""

from leastbook.errors import Loose, NoLabel, NoStyle, TooHigh, TooWide, Twice
from leastbook.places import HEIGHT, LISTED, WIDTH, figures


def is_style(style):
    return 4 <= style[WIDTH] <= 90 and 2 <= style[HEIGHT] <= 60


def is_titled(block):
    return block[0] in ("chapter", "heading")


def is_set(item):
    return item[0] in ("word", "ref")


def label_of(block):
    # A paragraph has no label of its own; each other block has it last.
    return "" if block[0] == "para" else block[-1]


def items_of(block):
    return block[1] if block[0] == "para" else []


def refs(book):
    labels = []
    for block in book:
        labels.extend([item[1] for item in items_of(block) if item[0] == "ref"])
    return labels


def pages_for(block, style):
    if block[0] == "plates":
        return 2 + block[1]
    if is_titled(block) and style[LISTED]:
        return 4
    return 2 + 2 * len([item for item in items_of(block) if is_set(item)])


# Looking at a book asks for its room already, so these two refuse nothing.
def pages_at_most(book, style):
    return 3 + sum([pages_for(block, style) for block in book])


def room_at_most(book, style):
    return figures(pages_at_most(book, style))


def any_longer(texts, width):
    return any([len(text) > width for text in texts])


def is_wide_block(block, style, room):
    if is_titled(block):
        # A row of contents has two blanks and the page beside the title.
        beside = 2 + room if style[LISTED] else 0
        return len(block[1]) + beside > style[WIDTH]
    return block[0] == "table" and any_longer(block[1], style[WIDTH])


def is_wide_item(item, style, room):
    if item[0] == "word":
        return any_longer([item[1]] + item[2], style[WIDTH])
    return item[0] == "ref" and len(item[2]) + room + len(item[3]) > style[WIDTH]


def is_high_block(block, style):
    if block[0] == "heading":
        return block[2] + 1 > style[HEIGHT]
    return block[0] == "table" and len(block[1]) > style[HEIGHT]


def is_high_item(item, style):
    return item[0] == "word" and len(item[2]) + 1 > style[HEIGHT]


def add_label(label, number, known):
    if label in known:
        raise Twice(number)
    known[label] = True


def look_at_block(block, number, style, room, known):
    if is_wide_block(block, style, room):
        raise TooWide(number)
    if is_high_block(block, style):
        raise TooHigh(number)
    if label_of(block) != "":
        add_label(label_of(block), number, known)


def look_at_item(item, number, style, room, known):
    if is_wide_item(item, style, room):
        raise TooWide(number)
    if is_high_item(item, style):
        raise TooHigh(number)
    if item[0] == "mark":
        add_label(item[1], number, known)


def look_at_items(items, number, style, room, known):
    words_left = len([item for item in items if is_set(item)])
    for item in items:
        look_at_item(item, number, style, room, known)
        if is_set(item):
            words_left -= 1
        elif words_left == 0:
            raise Loose(number)


def look_at_refs(book, known):
    for number, block in enumerate(book):
        for label in refs([block]):
            if label not in known:
                raise NoLabel(number)


def look(book, style):
    if not is_style(style):
        raise NoStyle("the width is from 4 to 90, the height from 2 to 60")
    room = room_at_most(book, style)
    known = {}
    for number, block in enumerate(book):
        look_at_block(block, number, style, room, known)
        look_at_items(items_of(block), number, style, room, known)
    look_at_refs(book, known)


def most_pages(book, style):
    look(book, style)
    return pages_at_most(book, style)


def most_room(book, style):
    look(book, style)
    return room_at_most(book, style)
