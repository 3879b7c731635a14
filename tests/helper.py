"""What several tests share: short names for blocks and items, all states of a
style, books made from a seed, and a plain second reckoning of a set book: its
places, what its references ought to have, and its pages."""

import itertools
import random


def chapter(title, label=""):
    return ("chapter", title, label)


def heading(title, keep=0, label=""):
    return ("heading", title, keep, label)


def para(*items):
    return ("para", list(items))


def table(rows, label=""):
    return ("table", list(rows), label)


def plates(many, label=""):
    return ("plates", many, label)


def word(text, *notes):
    return ("word", text, list(notes))


def ref(label, ahead="", behind=""):
    return ("ref", label, ahead, behind)


def mark(label):
    return ("mark", label)


def key(text):
    return ("key", text)


def all_states(style, page):
    width, height = style[0], style[1]
    states = []
    for line in range(height + 1):
        for foot in range(height - line + 1):
            for used in range(width + 1):
                if used == 0 or line + foot < height:
                    states.append((page, line, used, foot))
    return states


def labels_of(book):
    labels = []
    for block in book:
        if block[0] == "para":
            labels += [item[1] for item in block[1] if item[0] == "mark"]
        elif block[-1] != "":
            labels.append(block[-1])
    return labels


class BookMaker:
    """Books that their style lets by, alike for the same seed."""

    def __init__(self, seed):
        self.chance = random.Random(seed)
        self.style = self.make_style()
        self.labels = [a + b for a in "zkbqa" for b in "ymcxe"]

    def make_style(self):
        return (self.chance.randint(10, 16), self.chance.randint(2, 6),
                self.chance.random() < 0.5, self.chance.random() < 0.5)

    def fresh_label(self):
        return self.labels.pop() if self.labels else ""

    def perhaps_label(self):
        return self.fresh_label() if self.chance.random() < 0.6 else ""

    def make_block(self):
        height = self.style[1]
        kind = self.chance.choice(["chapter", "heading", "para", "para", "para", "table", "plates"])
        if kind == "chapter":
            return chapter("T" * self.chance.randint(1, 5), self.perhaps_label())
        if kind == "heading":
            return heading("H" * self.chance.randint(1, 5), self.chance.randint(0, height - 1),
                           self.perhaps_label())
        if kind == "table":
            return table(["row"] * self.chance.randint(1, height), self.perhaps_label())
        if kind == "plates":
            return plates(self.chance.choice([1, 1, 2, 3, 40]), self.perhaps_label())
        return ("para", self.make_items())

    def make_items(self):
        width, height = self.style[0], self.style[1]
        items = []
        for number in range(self.chance.randint(0, 6)):
            if self.chance.random() < 0.3 and self.labels:
                items.append(mark(self.fresh_label()))
            if self.chance.random() < 0.2:
                items.append(key("k" * self.chance.randint(1, 20)))
            if self.chance.random() < 0.4:
                items.append(ref("", "(" * self.chance.randint(0, 2), ")" * self.chance.randint(0, 2)))
            else:
                notes = self.chance.choice([0, 0, 0, 1, height - 1])
                items.append(word("w" * self.chance.randint(1, width), *(["note"] * notes)))
        return items

    def make_book(self):
        blocks = [self.make_block() for number in range(self.chance.randint(0, 8))]
        labels = labels_of(blocks)
        book = []
        for block in blocks:
            if block[0] == "para":
                block = ("para", self.point_refs(block[1], labels))
            book.append(block)
        return book

    def point_refs(self, items, labels):
        pointed = []
        for item in items:
            if item[0] == "ref" and labels:
                pointed.append(ref(self.chance.choice(labels), item[2], item[3]))
            elif item[0] == "ref":
                pointed.append(word("r"))
            else:
                pointed.append(item)
        return pointed

    def make_rooms(self, count, room):
        return [self.chance.randint(1, room) for number in range(count)]


def made_books(count):
    """(book, style, maker) for so many seeds."""
    made = []
    for seed in range(count):
        maker = BookMaker(seed)
        made.append((maker.make_book(), maker.style, maker))
    return made


class EdgeMaker(BookMaker):
    """Books whose labels stand where a power of ten is near, in pages that are nearly full."""

    def make_style(self):
        return (self.chance.randint(6, 9), self.chance.randint(2, 4),
                self.chance.random() < 0.3, self.chance.random() < 0.2)

    def make_book(self):
        near = self.chance.choice([8, 8, 8, 7, 98, 98, 97])
        blocks = [plates(near - self.chance.choice([0, 0, 1]))]
        for number in range(self.chance.randint(1, 3)):
            blocks.append(("para", self.make_items()))
        if self.chance.random() < 0.5:
            blocks.append(plates(self.chance.choice([1, 88, 89, 90]), self.fresh_label()))
            blocks.append(("para", self.make_items()))
        labels = labels_of(blocks)
        return [("para", self.point_refs(block[1], labels)) if block[0] == "para" else block
                for block in blocks]

    def make_items(self):
        width = self.style[0]
        items = []
        for number in range(self.chance.randint(2, 4)):
            items.append(word("w" * self.chance.choice([1, 2, width - 4, width - 3, width - 2])))
            items.append(mark(self.fresh_label()))
            items.append(self.chance.choice([ref("", "", ""), ref("", "", ""), word("x"), word("y", "note")]))
        return items


def edge_books(count):
    """(book, style) for so many seeds."""
    made = []
    for seed in range(count):
        maker = EdgeMaker(seed)
        made.append((maker.make_book(), maker.style))
    return made


def all_rooms(count, room):
    return [list(rooms) for rooms in itertools.product(range(1, room + 1), repeat=count)]


class Sheet:
    """A second reckoning: counts the free rows of the page that is being filled."""

    def __init__(self, style):
        self.width, self.height, self.odd, self.listed = style
        self.turn(1)

    def turn(self, page):
        self.page, self.begun, self.noted = page, [], 0

    def free(self):
        return self.height - len(self.begun) - self.noted

    def touched(self):
        return bool(self.begun) or self.noted > 0

    def close(self):
        # A row that is begun and not full takes words; a closed one takes none.
        if self.begun:
            self.begun[-1] = self.width

    def word(self, size, notes):
        if self.begun and self.begun[-1] + 1 + size <= self.width and notes <= self.free():
            column = self.begun[-1] + 1
            self.begun[-1] += 1 + size
        else:
            if notes + 1 > self.free():
                self.turn(self.page + 1)
            column = 0
            self.begun.append(size)
        self.noted += notes
        return (self.page, len(self.begun) - 1, column)

    def block(self, rows, keep):
        if rows + keep > self.free():
            self.turn(self.page + 1)
        place = (self.page, len(self.begun), 0)
        self.begun += [self.width] * rows
        return place

    def open_page(self):
        if self.touched():
            self.turn(self.page + 1)

    def open_chapter(self):
        self.open_page()
        if self.odd and self.page % 2 == 0:
            self.turn(self.page + 1)

    def plates(self, many):
        self.open_page()
        place = (self.page, 0, 0)
        self.turn(self.page + many)
        return place


def reckoned(book, style, rooms):
    """What laid ought to tell, by Sheet."""
    sheet = Sheet(style)
    left = list(rooms)
    titled = [block for block in book if block[0] in ("chapter", "heading")]
    told = [[sheet.block(1, 0) for block in titled] if style[3] else []]
    if told[0]:
        sheet.open_chapter()
    for block in book:
        told.append(reckoned_block(sheet, block, left))
    return told


def reckoned_block(sheet, block, left):
    if block[0] == "chapter":
        sheet.open_chapter()
        return [sheet.block(1, 0)]
    if block[0] == "heading":
        return [sheet.block(1, block[2])]
    if block[0] == "table":
        return [sheet.block(len(block[1]), 0)]
    if block[0] == "plates":
        return [sheet.plates(block[1])]
    places = []
    for item in block[1]:
        if item[0] == "word":
            places.append(sheet.word(len(item[1]), len(item[2])))
        elif item[0] == "ref":
            places.append(sheet.word(len(item[2] + item[3]) + left.pop(0), 0))
    sheet.close()
    return places


def set_items(block):
    return [item for item in block[1] if item[0] in ("word", "ref")]


def items_with_places(block, places):
    """(mark or key, place of what it stands with), in their order."""
    found = []
    for at, item in enumerate(block[1]):
        if item[0] in ("mark", "key"):
            behind = len([other for other in block[1][at:] if other[0] in ("word", "ref")])
            found.append((item, places[len(places) - behind]))
    return found


def things(book, told):
    """From each label to the page of its thing, with the places as told."""
    pages = {}
    for block, places in zip(book, told[1:], strict=True):
        if block[0] == "para":
            pages.update((item[1], place[0]) for item, place in items_with_places(block, places)
                         if item[0] == "mark")
        elif block[-1]:
            pages[block[-1]] = places[0][0]
    return pages


def ought(book, style, rooms):
    """What needed ought to tell, by Sheet."""
    pages = things(book, reckoned(book, style, rooms))
    return [len(str(pages[item[1]])) for block in book if block[0] == "para"
            for item in block[1] if item[0] == "ref"]


def right_and_enough(book, style, count, room):
    """All right rooms and all that are enough, of every list from 1 to the room."""
    right, enough = [], []
    for rooms in all_rooms(count, room):
        wanted = ought(book, style, rooms)
        if rooms == wanted:
            right.append(rooms)
        if all(given >= asked for given, asked in zip(rooms, wanted)):
            enough.append(rooms)
    return right, enough


class Paper:
    """Pages as signs in columns: each text is put where its place is told."""

    def __init__(self, style):
        self.width, self.height = style[0], style[1]
        self.lines, self.notes = {}, {}

    def put(self, place, text):
        page, line, column = place
        rows = self.lines.setdefault(page, [[None] * self.width for row in range(self.height)])
        for at, sign in enumerate(text):
            assert rows[line][column + at] is None, (place, text)
            rows[line][column + at] = sign

    def note(self, page, texts):
        self.notes.setdefault(page, []).extend(texts)

    def row(self, signs):
        while signs and signs[-1] is None:
            signs = signs[:-1]
        return "".join(" " if sign is None else sign for sign in signs)

    def told(self):
        pages = []
        for page in sorted(self.lines):
            rows = [self.row(signs) for signs in self.lines[page]]
            for at, text in enumerate(reversed(self.notes.get(page, [])), start=1):
                assert rows[-at] == "", page
                rows[-at] = text
            pages.append((page, rows))
        return pages


def painted(book, style, rooms):
    """What page_rows ought to tell, were these the least rooms."""
    told = reckoned(book, style, rooms)
    pages = things(book, told)
    paper = Paper(style)
    titled = [(block[1], places[0][0]) for block, places in zip(book, told[1:])
              if block[0] in ("chapter", "heading")]
    for place, (title, page) in zip(told[0], titled):
        paper.put(place, dotted(title, page, style[0]))
    for block, places in zip(book, told[1:], strict=True):
        paint_block(paper, block, places, pages)
    return paper.told()


def dotted(title, page, width):
    signs = ["."] * width
    signs[:len(title) + 1] = title + " "
    signs[width - len(str(page)) - 1:] = " " + str(page)
    return "".join(signs)


def paint_block(paper, block, places, pages):
    if block[0] in ("chapter", "heading"):
        paper.put(places[0], block[1])
    elif block[0] == "table":
        page, line, column = places[0]
        for at, row in enumerate(block[1]):
            paper.put((page, line + at, column), row)
    elif block[0] == "para":
        for item, place in zip(set_items(block), places, strict=True):
            paper.put(place, item_text(item, pages))
            if item[0] == "word":
                paper.note(place[0], item[2])


def item_text(item, pages):
    return item[1] if item[0] == "word" else f"{item[2]}{pages[item[1]]}{item[3]}"
