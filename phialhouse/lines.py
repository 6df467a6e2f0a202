"""Words of the desk's rows and answers. A word that cannot be read is told as None."""

from phialhouse.amounts import read_amount, read_figures, shown_amount
from phialhouse.errors import NoText
from phialhouse.mixtures import is_ware

MOST_FIGURES_OF_NUMBER = 9
# What stands behind the first word of a row; `book`, `bench` and `strength` have rows of their own.
FORMS = {
    "order": (),
    "mean": ("name", "amount"),
    "need": ("name",),
    "make": ("name", "amount"),
    "hold": ("number",),
    "clings": ("number",),
    "empty": ("number",),
    "rinse": ("number",),
    "take": ("name", "name", "number", "number"),
    "pour": ("name", "name", "number"),
    "give": ("name", "name", "number"),
    "go": ("number",),
    "back": (),
    "held": ("name",),
    "called": ("name",),
}


def shown_mixture(one):
    return ", ".join([shown_part(name, many) for name, many in one]) if len(one) > 0 else "-"


def shown_part(name, many):
    text = shown_amount(many)
    return f"{name} {text}"


def shown_list(some):
    return ",".join([str(one) for one in some]) if len(some) > 0 else "-"


def number_of(word):
    if not isinstance(word, str) or len(word) > MOST_FIGURES_OF_NUMBER:
        return None
    return read_figures(word)


def amount_of(word):
    try:
        return read_amount(word)
    except NoText:
        return None


# The words of a row, or None of what is no row at all.
def words_of(row):
    if not isinstance(row, str) or "\n" in row:
        return None
    words = row.split(" ")
    return None if "" in words else words


# What the words behind the first one tell, or None where they are not formed as that row's are.
def things_told(words):
    form = FORMS.get(words[0])
    if form is None or len(words) != len(form) + 1:
        return None
    things = [thing_told(kind, word) for kind, word in zip(form, words[1:])]
    return None if None in things else things


def thing_told(kind, word):
    if kind == "number":
        return number_of(word)
    if kind == "amount":
        return amount_of(word)
    return word if is_ware(word) else None
