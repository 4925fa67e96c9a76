"""Texts: trees, tables and changes as they are shown, and read again where a text is written just so."""

from stepgrove.changes import is_change, refuse_no_change
from stepgrove.errors import NoText, TooMany
from stepgrove.fracs import is_fraction
from stepgrove.tables import is_table, refuse_no_table
from stepgrove.trees import MOST_KNOTS, refuse_no_tree, trees_of

MOST_FIGURES = 40
UNKNOWNS = ("x", "y", "z", "w")


def shown_tree(tree):
    refuse_no_tree(tree)
    return tree_text(tree)


def shown_table(table):
    refuse_no_table(table)
    lines = [" ".join(["row"] + fraction_texts(row)) for row in table[0]]
    lines.append(" ".join(["last"] + fraction_texts(table[1])))
    return "\n".join(lines)


def shown_change(change):
    refuse_no_change(change)
    if len(change) > len(UNKNOWNS):
        raise TooMany("changes are written in up to four unknowns")
    return change_text(change)


def read_tree(text):
    tree = tree_in(text)
    if tree is None:
        raise NoText("a tree is written as brackets around its boughs in falling order, seven knots at most")
    return tree


def read_table(text):
    lines = [line.split(" ") for line in text.split("\n")]
    heads = [words[0] for words in lines]
    parts = [fractions_in(words[1:], MOST_FIGURES) for words in lines]
    table = (parts[:-1], parts[-1])
    if heads != ["row"] * (len(lines) - 1) + ["last"] or not is_table(table):
        raise NoText("a table is written as a line for each row and one for the last")
    return table


def read_change(text):
    lines = text.split("\n")
    names = UNKNOWNS[:len(lines)]
    change = [poly_in(line, names) for line in lines]
    # The text is taken apart without much looking: whatever it has otherwise than is shown comes to light here.
    if len(lines) > len(UNKNOWNS) or not is_change(change) or change_text(change) != text:
        raise NoText("a change is written as a line for each of up to four unknowns")
    return change


def fraction_text(part):
    top = part[0]
    bottom = part[1]
    return f"{top}" if bottom == 1 else f"{top}/{bottom}"


def fraction_texts(some):
    return [fraction_text(part) for part in some]


def tree_text(tree):
    return "[" + "".join([tree_text(bough) for bough in tree]) + "]"


def change_text(change):
    return "\n".join([f"{name} = " + poly_text(some) for name, some in zip(UNKNOWNS, change)])


def poly_text(some):
    if len(some) == 0:
        return "0"
    return " + ".join([term_text(powers, part) for powers, part in some])


def term_text(powers, part):
    factors = [fraction_text(part)]
    for name, power in zip(UNKNOWNS, powers):
        factors.extend([name] * power)
    return "*".join(factors)


# The functions below tell None where a text is not written as it would be shown.


def tree_in(text):
    knots = text.count("[")
    if knots < 1 or knots > MOST_KNOTS:
        return None
    for tree in trees_of(knots):
        if tree_text(tree) == text:
            return tree
    return None


def fraction_in(word, figures):
    halves = word.split("/")
    top = whole_in(halves[0], figures)
    bottom = 1
    if len(halves) > 1:
        bottom = whole_in(halves[1], figures)
    part = (top, bottom)
    if not is_fraction(part) or fraction_text(part) != word:
        return None
    return part


def fractions_in(words, figures):
    return [fraction_in(word, figures) for word in words]


def whole_in(word, figures):
    if len(word.lstrip("-")) > figures:
        return None
    try:
        return int(word)
    except ValueError:
        return None


def poly_in(line, names):
    written = line.partition(" = ")[2]
    if written == "0":
        return []
    return [term_in(term, names) for term in written.split(" + ")]


def term_in(term, names):
    factors = term.split("*")
    powers = [factors.count(name) for name in names]
    return (tuple(powers), fraction_in(factors[0], MOST_FIGURES))
