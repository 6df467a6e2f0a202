"""Writes a book of recipes as the text that the reader reads back to it."""

from phialhouse.amounts import shown_amount


def shown_book(book):
    wares = [f"ware {name}" for name in book[0]]
    pairs = [f"apart {one} {other}" for one, other in book[1]]
    recipes = [shown_recipe(name, rows) for name, rows in book[2]]
    return "\n".join(wares + pairs + recipes)


def shown_recipe(name, rows):
    text = "; ".join([shown_row(row) for row in rows])
    return f"recipe {name}: {text}"


def shown_row(row):
    if row[0] == "parts":
        return shown_parts(row[1], row[2])
    thing = row[2]
    if row[0] == "to":
        number = row[1]
        return f"{number} to one of {thing}"
    many = shown_amount(row[1])
    return f"take {many} of {thing}" if row[0] == "take" else f"fill {many} with {thing}"


def shown_parts(all_of_it, pairs):
    many = shown_amount(all_of_it)
    text = ", ".join([f"{number} {thing}" for number, thing in pairs])
    return f"parts {many}: {text}"
