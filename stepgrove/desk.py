"""The desk: takes lines, keeps a table, a change and a start, and answers each line with one."""

from stepgrove.errors import NoLine, NoText, TooMany
from stepgrove.follows import followed_weighing
from stepgrove.growth import growth_rows
from stepgrove.joins import table_behind, table_sharpened, table_shrunk
from stepgrove.judging import judge_paper, order_paper
from stepgrove.orders import table_order
from stepgrove.steps import step_rows, step_to
from stepgrove.tables import MOST_ROWS, table_of
from stepgrove.texts import fraction_texts, fractions_in, read_change, shown_tree, tree_in
from stepgrove.trees import tree_density
from stepgrove.weighings import weighing_mirrored
from stepgrove.weights import table_weight, table_weighing
from stepgrove.wholes import greatest_power

MOST_DESK_FIGURES = 12
MOST_SPEED_TERMS = 12
MOST_SPEED_POWER = 3
MOST_STEP_ROWS = 4
MOST_STEP_POWER = 2
REACHES = ("0", "1", "2", "3", "4", "5", "6")


def refuse_line():
    raise NoLine("the desk knows no line of this form")


def one_word(words):
    if len(words) != 1:
        refuse_line()
    return words[0]


def no_word(words):
    if len(words) != 0:
        refuse_line()


def fractions_told(words, due):
    some = fractions_in(words, MOST_DESK_FIGURES)
    if len(some) != due or None in some:
        refuse_line()
    return some


def reach_told(words):
    word = one_word(words)
    if word not in REACHES:
        refuse_line()
    return REACHES.index(word)


def fractions_shown(some):
    return " ".join(fraction_texts(some))


def weighing_shown(weighing):
    return "none" if len(weighing) == 0 else fractions_shown(weighing)


def rows_shown(rows):
    return " ; ".join([fractions_shown(row) for row in rows])


def take_table(desk, table):
    desk.table = table
    count = len(table[0])
    return f"rows {count}"


# One function for each form of line: it looks at all that may be refused ahead of changing the desk.


def answer_table(desk, words):
    table = table_of(one_word(words))
    desk.begun = []
    return take_table(desk, table)


def answer_row(desk, words):
    if len(words) == 0:
        desk.begun = [[]]
    else:
        # Where no table is begun no fraction is due, and so none is taken.
        row = fractions_told(words, len(desk.begun))
        if len(row) == MOST_ROWS:
            raise TooMany("a table has at most 40 rows")
        desk.begun = desk.begun + [row]
    count = len(desk.begun)
    return f"told {count}"


def answer_last(desk, words):
    if len(desk.begun) == 0:
        refuse_line()
    table = (desk.begun, fractions_told(words, len(desk.begun)))
    desk.begun = []
    return take_table(desk, table)


def answer_speeds(desk, words):
    if len(words) == 0:
        refuse_line()
    change = read_change(" ".join(words).replace(" ; ", "\n"))
    if greatest_power(change) > MOST_SPEED_POWER or max([len(some) for some in change]) > MOST_SPEED_TERMS:
        raise NoText("the desk takes speeds of at most 12 terms each, with powers that sum to at most 3")
    desk.change = change
    desk.start = [(1, 1)] * len(change)
    count = len(change)
    return f"speeds {count}"


def answer_start(desk, words):
    desk.start = fractions_told(words, len(desk.change))
    return "start"


def answer_step(desk, words):
    length = fractions_told(words, 1)[0]
    if len(desk.table[0]) > MOST_STEP_ROWS or greatest_power(desk.change) > MOST_STEP_POWER:
        raise TooMany("steps are told for tables of at most four rows and powers that sum to at most 2")
    return fractions_shown(step_to(desk.table, desk.change, desk.start, length))


def answer_grow(desk, words):
    return rows_shown(growth_rows(desk.change, desk.start, reach_told(words)))


def answer_powers(desk, words):
    return rows_shown(step_rows(desk.table, desk.change, desk.start, reach_told(words)))


def answer_weigh(desk, words):
    return weighing_shown(table_weighing(desk.table, reach_told(words)))


def answer_order(desk, words):
    no_word(words)
    told = table_order(desk.table)
    order = told[0]
    if told[1] is None:
        return f"order {order}"
    return f"order {order} " + shown_tree(told[1])


def answer_paper(desk, words):
    no_word(words)
    return "yes" if judge_paper(desk.table, order_paper(desk.table)) else "no"


def answer_part(desk, words):
    tree = tree_in(one_word(words))
    if tree is None:
        refuse_line()
    return fractions_shown([table_weight(desk.table, tree), (1, tree_density(tree))])


def answer_sharpen(desk, words):
    order = reach_told(words)
    if order == 0:
        refuse_line()
    return take_table(desk, table_sharpened(desk.table, order))


def answer_halve(desk, words):
    no_word(words)
    return take_table(desk, table_shrunk(desk.table, (1, 2)))


def answer_twice(desk, words):
    no_word(words)
    return take_table(desk, table_behind(desk.table, desk.table))


def answer_mirror(desk, words):
    return weighing_shown(weighing_mirrored(table_weighing(desk.table, reach_told(words))))


def answer_follow(desk, words):
    return weighing_shown(followed_weighing(table_weighing(desk.table, reach_told(words))))


ANSWERS = {
    "table": answer_table,
    "row": answer_row,
    "last": answer_last,
    "speeds": answer_speeds,
    "start": answer_start,
    "step": answer_step,
    "grow": answer_grow,
    "powers": answer_powers,
    "weigh": answer_weigh,
    "order": answer_order,
    "paper": answer_paper,
    "part": answer_part,
    "sharpen": answer_sharpen,
    "halve": answer_halve,
    "twice": answer_twice,
    "mirror": answer_mirror,
    "follow": answer_follow,
}


class Desk:
    def __init__(self):
        self.table = table_of("plain")
        self.change = read_change("x = 1*x")
        self.start = [(1, 1)]
        # The rows of a table that is being told; without one where none is.
        self.begun = []

    def tell(self, line):
        words = line.split(" ")
        # A blank at an end, or two side by side, leave a word without a sign; with a line end it is more than a line.
        if "" in words or "\n" in line or words[0] not in ANSWERS:
            refuse_line()
        answer = ANSWERS[words[0]]
        return answer(self, words[1:])
