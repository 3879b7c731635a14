"""Places and states: how one thing after another is set on lines and pages.

A style is a tuple (width, height, odd, listed), a state a tuple
(page, line, used, foot), a place a tuple (page, line, column).
"""

WIDTH = 0
HEIGHT = 1
ODD = 2
LISTED = 3

PAGE = 0
LINE = 1
USED = 2
FOOT = 3

# Of a place; its page and line stand where a state has them.
COLUMN = 2


def figures(number):
    return len(str(number))


def bare(page):
    return (page, 0, 0, 0)


def has_height(style, state, lines):
    return state[LINE] + state[FOOT] + lines <= style[HEIGHT]


def has_width(style, state, size):
    return state[USED] == 0 or state[USED] + 1 + size <= style[WIDTH]


def word_at(page, line, column, size, foot):
    return ((page, line, column), (page, line, column + size, foot))


def put_word(style, state, size, rows):
    page = state[PAGE]
    line = state[LINE]
    used = state[USED]
    foot = state[FOOT] + rows
    if has_width(style, state, size) and has_height(style, state, 1 + rows):
        column = 0 if used == 0 else used + 1
        return word_at(page, line, column, size, foot)
    if used > 0 and has_height(style, state, 2 + rows):
        return word_at(page, line + 1, 0, size, foot)
    return word_at(page + 1, 0, 0, size, rows)


def end_line(state):
    if state[USED] == 0:
        return state
    return (state[PAGE], state[LINE] + 1, 0, state[FOOT])


def put_block(style, state, rows, keep):
    start = end_line(state)
    if not has_height(style, start, rows + keep):
        start = bare(start[PAGE] + 1)
    place = (start[PAGE], start[LINE], 0)
    return (place, (start[PAGE], start[LINE] + rows, 0, start[FOOT]))


def new_page(state):
    if state == bare(state[PAGE]):
        return state
    return bare(state[PAGE] + 1)


def new_chapter(style, state):
    start = new_page(state)
    if style[ODD] and start[PAGE] % 2 == 0:
        return bare(start[PAGE] + 1)
    return start


def put_plates(state, many):
    page = new_page(state)[PAGE]
    return ((page, 0, 0), bare(page + many))


def no_later(one, other):
    if one[PAGE] != other[PAGE]:
        return one[PAGE] < other[PAGE]
    # Rows at the foot push later words off the page just as full lines do,
    # so of two states on one page the earlier must be so in both.
    return (one[LINE], one[USED]) <= (other[LINE], other[USED]) and one[FOOT] <= other[FOOT]
