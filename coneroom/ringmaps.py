"""Tables that lead one closed room to another one, perhaps the same."""

from coneroom.form import products_of_images
from coneroom.matrix import has_inverse, image, table_leading


def ways_round(walls):
    """Return the list of all ways to go round a ring: from each wall on, forwards and backwards."""
    ways = []
    for way in (walls, walls[::-1]):
        ways.extend([way[start:] + way[:start] for start in range(len(way))])
    return ways


def keeps_products(first, second, matrix):
    """Return whether a table can be undone, and its images have by a second form the products by the first."""
    return has_inverse(matrix) and products_of_images(second.table, matrix) == first.table


def leads(first, second, matrix, way):
    """Return whether a table leads a closed room to a second one, and its walls to those of a way round."""
    # The walls tell the room, and with it the half of the cone: so the cone is not turned over.
    lands = all([image(matrix, r) == s for r, s in zip(first.walls, way)])
    return lands and keeps_products(first.room.form, second.room.form, matrix)


def tables_between(first, second):
    """Return the ascending list of the tables that keep products and lead a closed room to a second one.

    The products are those by the form of the first room and, for the images, by that of the second one.
    """
    if len(first.walls) != len(second.walls):
        return []
    tables = []
    # A table leads a ring to a ring, and three walls side by side tell all of it.
    for way in ways_round(second.walls):
        matrix = table_leading(first.walls[:3], way[:3])
        if matrix is not None and leads(first, second, matrix, way):
            tables.append(matrix)
    return sorted(tables)
