"""Books as rows of text: written, and read again."""

from leastbook.books import items_of, label_of
from leastbook.errors import NoRow


def item_rows(item):
    if item[0] == "word":
        return ["word " + item[1]] + ["note " + note for note in item[2]]
    if item[0] == "ref":
        return ["ref " + item[1] + " " + item[2] + "|" + item[3]]
    return [item[0] + " " + item[1]]


def first_row(block):
    kind = block[0]
    inner = block[1]
    label = "-" if label_of(block) == "" else label_of(block)
    if kind == "chapter":
        return f"chapter {label} {inner}"
    if kind == "heading":
        keep = block[2]
        return f"heading {keep} {label} {inner}"
    if kind == "plates":
        return f"plates {inner} {label}"
    return f"table {label}" if kind == "table" else "para"


def block_rows(block):
    rows = [first_row(block)]
    if block[0] == "table":
        rows.extend(["row " + row for row in block[1]])
    for item in items_of(block):
        rows.extend(item_rows(item))
    return rows


def written(book):
    rows = []
    for block in book:
        rows.extend(block_rows(block))
    for number, row in enumerate(rows):
        # One | parts the texts of a reference; any other is within a text.
        if row.startswith("ref ") and row.count("|") > 1:
            raise NoRow(number)
    return rows


def is_sign(sign):
    # 37 is the percent sign, which no text has.
    return " " <= sign <= "~" and ord(sign) != 37


def is_label(text):
    return text != "" and all(["a" <= sign <= "z" for sign in text])


def is_block_label(text):
    return text == "-" or is_label(text)


def is_word(text):
    return text != "" and " " not in text


def is_title(text):
    return text != "" and text == text.strip(" ")


def is_number(text):
    return text == "0" or (text.isdigit() and text[0] != "0")


def read_label(text):
    return "" if text == "-" else text


# Each of the next tells a block or an item, or None where the row is that of none.
def read_chapter(row):
    parts = row.split(" ", 2)
    if len(parts) == 3 and is_block_label(parts[1]) and is_title(parts[2]):
        return ("chapter", parts[2], read_label(parts[1]))
    return None


def read_heading(row):
    parts = row.split(" ", 3)
    if len(parts) == 4 and is_number(parts[1]) and is_block_label(parts[2]) and is_title(parts[3]):
        return ("heading", parts[3], int(parts[1]), read_label(parts[2]))
    return None


def read_table(row):
    parts = row.split(" ")
    if len(parts) == 2 and is_block_label(parts[1]):
        return ("table", [], read_label(parts[1]))
    return None


def read_plates(row):
    parts = row.split(" ")
    if len(parts) == 3 and is_number(parts[1]) and parts[1] != "0" and is_block_label(parts[2]):
        return ("plates", int(parts[1]), read_label(parts[2]))
    return None


def read_block(row):
    if row == "para":
        return ("para", [])
    if row.startswith("chapter "):
        return read_chapter(row)
    if row.startswith("heading "):
        return read_heading(row)
    if row.startswith("table "):
        return read_table(row)
    if row.startswith("plates "):
        return read_plates(row)
    return None


def read_ref(row):
    parts = row.split(" ")
    if len(parts) == 3 and is_label(parts[1]) and parts[2].count("|") == 1:
        texts = parts[2].split("|")
        return ("ref", parts[1], texts[0], texts[1])
    return None


def read_item(row):
    inner = row.partition(" ")[2]
    if row.startswith("ref "):
        return read_ref(row)
    if row.startswith("word ") and is_word(inner):
        return ("word", inner, [])
    if row.startswith("key ") and is_word(inner):
        return ("key", inner)
    if row.startswith("mark ") and is_label(inner):
        return ("mark", inner)
    return None


# These two tell the list that a "row" or "note" goes to, or None where it may not stand.
def rows_of_last(book):
    return book[-1][1] if len(book) > 0 and book[-1][0] == "table" else None


def notes_of_last(book):
    items = items_of(book[-1]) if len(book) > 0 else []
    return items[-1][2] if len(items) > 0 and items[-1][0] == "word" else None


def lacks_row(book):
    return rows_of_last(book) == []


def add_text(texts, row):
    if texts is None:
        return False
    texts.append(row.partition(" ")[2])
    return True


def add_item(book, item):
    if item is None or len(book) == 0 or book[-1][0] != "para":
        return False
    book[-1][1].append(item)
    return True


# Tells whether the rows, with this one, are still the beginning of some book's.
def add_row(book, row):
    if not all([is_sign(sign) for sign in row]):
        return False
    if row.startswith("row "):
        return add_text(rows_of_last(book), row)
    if lacks_row(book):
        return False
    if row.startswith("note "):
        return add_text(notes_of_last(book), row)
    block = read_block(row)
    if block is None:
        return add_item(book, read_item(row))
    book.append(block)
    return True


def read(rows):
    book = []
    for number, row in enumerate(rows):
        if not add_row(book, row):
            raise NoRow(number)
    if lacks_row(book):
        raise NoRow(len(rows))
    return book
