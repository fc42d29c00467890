"""Texts of polys, rows, grids and steps, and what is read from them."""

from rowsfilled.checks import check_poly, check_prime
from rowsfilled.errors import BadGrid, BadText
from rowsfilled.shapes import SIZES, check_row, check_size, is_rows_of
from rowsfilled.steps import check_steps
from rowsfilled.wording import FIGURES, poly_read, poly_worded

MOST_ROWS = 4


def poly_text(prime, poly):
    """The text of the poly."""
    check_prime(prime)
    check_poly(prime, poly)
    return poly_worded(poly)


def row_worded(row):
    return ", ".join([poly_worded(poly) for poly in row])


def row_text(prime, row):
    """The text of the row."""
    check_prime(prime)
    check_row(prime, row)
    return row_worded(row)


def check_text_grid(prime, grid):
    if not isinstance(grid, tuple) or not 1 <= len(grid) <= MOST_ROWS:
        raise BadGrid("no tuple of one to four rows")
    if not any([is_rows_of(prime, grid, len(grid), size) for size in SIZES]):
        raise BadGrid("no tuple of rows of equally many polys of this prime")


def grid_text(prime, grid):
    """The text of the grid."""
    check_prime(prime)
    check_text_grid(prime, grid)
    return "; ".join([row_worded(row) for row in grid])


def steps_text(prime, size, steps):
    """The text of the steps."""
    check_steps(prime, size, steps)
    return "; ".join([f"{i} {j}: {poly_worded(poly)}" for i, j, poly in steps]) if steps else "none"


def check_text(text):
    if not isinstance(text, str):
        raise BadText(0)


def read_poly(prime, text):
    """The poly of this text."""
    check_prime(prime)
    check_text(text)
    poly, at = poly_read(prime, text)
    if poly is None:
        raise BadText(at)
    return poly


def row_read(prime, text):
    """The row of this text, as a list that breaks off ahead of the first part that is no poly's text."""
    row = []
    for part in text.split(", "):
        poly, _ = poly_read(prime, part)
        if poly is None:
            break
        row.append(poly)
    return row


def is_row_text(text, row):
    """Whether the row that was read is that of all the text."""
    return len(row) in SIZES and len(row) == len(text.split(", "))


def read_row(prime, text):
    """The row of this text."""
    check_prime(prime)
    check_text(text)
    row = row_read(prime, text)
    if not is_row_text(text, row):
        raise BadText(len(row))
    return tuple(row)


def read_grid(prime, text):
    """The grid of this text."""
    check_prime(prime)
    check_text(text)
    grid = []
    for part in text.split("; "):
        row = row_read(prime, part)
        if not is_row_text(part, row) or (grid and len(row) != len(grid[0])):
            raise BadText(len(grid))
        grid.append(tuple(row))
    if len(grid) > MOST_ROWS:
        raise BadText(len(grid))
    return tuple(grid)


def place_read(size, sign):
    """The index below the size that a sign tells, None if it tells none."""
    return int(sign) if sign != "" and sign in FIGURES[:size] else None


def step_read(prime, size, text):
    """The step of this text, None if it is no step's."""
    i, j = place_read(size, text[:1]), place_read(size, text[2:3])
    if i is None or j is None or i == j or text[1:2] != " " or text[3:5] != ": ":
        return None
    poly, _ = poly_read(prime, text[5:])
    return None if poly is None else (i, j, poly)


def read_steps(prime, size, text):
    """The steps of this text."""
    check_size(prime, size)
    check_text(text)
    if text == "none":
        return []
    steps = []
    for part in text.split("; "):
        step = step_read(prime, size, part)
        if step is None:
            raise BadText(len(steps))
        steps.append(step)
    return steps
