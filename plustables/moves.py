"""Moves of a square, and the moves that lead one table into another."""

from plustables.errors import NoMove, TooGreat, Unlike
from plustables.making import made
from plustables.tables import all_columns, column, has_place, need_square, need_table, turned, turned_at

MOST_LED_ROWS = 8
# Of a made table of up to 8 rows, what these rows have in a column tells which column it is.
TELLING_ROWS = (1, 2, 4)


def moved(rows, moves):
    need_square(rows)
    square = [list(row) for row in rows]
    for move in moves:
        need_move(square, move)
        square = done(square, move)
    return square


def need_move(rows, move):
    places = move[1:]
    if not all([has_place(rows, place) for place in places]):
        raise NoMove("a move has numbers of rows or columns that the square has")
    if len(places) == 2 and places[0] >= places[1]:
        raise NoMove("a move that changes two about has the lesser number first")


def done(rows, move):
    if move[0] == "row":
        return row_turned(rows, move[1])
    if move[0] == "rows":
        return changed_about(rows, move[1], move[2])
    if move[0] == "column":
        return all_columns(row_turned(all_columns(rows), move[1]))
    return all_columns(changed_about(all_columns(rows), move[1], move[2]))


def row_turned(rows, place):
    return rows[:place] + [turned(rows[place])] + rows[place + 1:]


def changed_about(things, lesser, greater):
    changed = list(things)
    changed[lesser] = things[greater]
    changed[greater] = things[lesser]
    return changed


def led(one, other):
    need_table(one)
    need_table(other)
    if len(one) != len(other):
        raise Unlike("a table is led into one of its own size")
    if len(one) > MOST_LED_ROWS:
        raise TooGreat("tables of at most 8 rows are led one into the other")
    # A move done twice changes nothing, so the other's moves, the last one first, lead back to it.
    return moves_to_made(one) + list(reversed(moves_to_made(other)))


def moves_to_made(rows):
    # At most 8 columns and 7 rows are turned, then two are changed about at most once, 6 times and twice.
    # That makes 24 moves, so those of two tables stay below 100.
    moves = column_turns(rows)
    moves = moves + row_turns(moved(rows, moves))
    moves = moves + row_three_change(moved(rows, moves))
    moves = moves + column_changes(moved(rows, moves))
    return moves + row_changes(moved(rows, moves))


def column_turns(rows):
    return [("column", place) for place, number in enumerate(rows[0]) if number == -1]


def row_turns(rows):
    return [("row", place) for place, row in enumerate(rows) if row[0] == -1]


def row_three_change(rows):
    # Rows 1 and 2 of a plain table of 4 or 8 rows, multiplied place by place, give one of its rows.
    # That one must not be row 4, or the columns could not be told by rows 1, 2 and 4: so it becomes row 3.
    if len(rows) < 4:
        return []
    place = rows.index(turned_at(rows[1], rows[2]))
    return [("rows", 3, place)] if place > 3 else []


def column_changes(rows):
    return changes("columns", told_columns(rows), told_columns(made(len(rows))))


def told_columns(rows):
    telling = [rows[place] for place in TELLING_ROWS if has_place(rows, place)]
    return [column(telling, place) for place in range(len(rows))]


def row_changes(rows):
    return changes("rows", rows, made(len(rows)))


def changes(form, things, wanted):
    moves = []
    order = list(things)
    for place, thing in enumerate(wanted):
        # The things are all unlike, so those that stand already are not found again: found is never below place.
        found = order.index(thing)
        if found > place:
            moves.append((form, place, found))
            order = changed_about(order, place, found)
    return moves
