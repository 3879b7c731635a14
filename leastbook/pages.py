"""The pages of a book as rows of text, the book set with the least rooms."""

from leastbook.books import is_set
from leastbook.least import set_least
from leastbook.places import COLUMN, HEIGHT, PAGE, WIDTH
from leastbook.setting import label_pages, title_pages


# A sheet is a tuple (lines, notes) of one page. They are kept apart, as how many
# empty rows stand between them is known only when the page is done.
def sheet_of(sheets, page):
    return sheets.setdefault(page, ([], []))


def add_lines(sheets, place, lines):
    sheet_of(sheets, place[PAGE])[0].extend(lines)


def add_word(sheets, place, text, notes):
    sheet = sheet_of(sheets, place[PAGE])
    lines = sheet[0]
    if place[COLUMN] == 0:
        lines.append(text)
    else:
        lines[-1] = lines[-1] + " " + text
    sheet[1].extend(notes)


def add_items(sheets, items, places, pages):
    words = [item for item in items if is_set(item)]
    for item, place in zip(words, places):
        if item[0] == "ref":
            add_word(sheets, place, item[2] + str(pages[item[1]]) + item[3], [])
        else:
            add_word(sheets, place, item[1], item[2])


def add_block(sheets, block, places, pages):
    if block[0] == "para":
        add_items(sheets, block[1], places, pages)
    elif block[0] == "table":
        add_lines(sheets, places[0], block[1])
    elif block[0] != "plates":
        add_lines(sheets, places[0], [block[1]])


def contents_row(title, page, width):
    number = str(page)
    dots = "." * (width - len(title) - 2 - len(number))
    return f"{title} {dots} {number}"


def filled(sheet, height):
    empty = height - len(sheet[0]) - len(sheet[1])
    return sheet[0] + [""] * empty + sheet[1]


def page_rows(book, style):
    told = set_least(book, style)
    pages = label_pages(book, told)
    sheets = {}
    # Where contents are not listed there are no places for them.
    for place, titled in zip(told[0], title_pages(book, told)):
        add_lines(sheets, place, [contents_row(titled[0], titled[1], style[WIDTH])])
    for block, places in zip(book, told[1:]):
        add_block(sheets, block, places, pages)
    # What is set later stands on no lesser page, so the sheets rise already.
    return [(page, filled(sheets[page], style[HEIGHT])) for page in sheets]
