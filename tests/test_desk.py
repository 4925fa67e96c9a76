import copy
import unittest

from stepgrove.changes import change_speeds
from stepgrove.desk import Desk
from stepgrove.errors import GroveError, NoLine, NoName, NoText, TooMany
from stepgrove.follows import followed_weighing
from stepgrove.growth import growth_rows
from stepgrove.joins import table_behind, table_sharpened, table_shrunk
from stepgrove.orders import table_order
from stepgrove.steps import step_rows, step_to
from stepgrove.tables import table_of
from stepgrove.texts import read_change, shown_change
from stepgrove.trees import tree_density, trees_to
from stepgrove.weighings import weighing_mirrored
from stepgrove.weights import table_weight, table_weighing

from plain import chances, some_change, some_fraction, some_table
from things import OF_ORDER_3, OF_ORDER_5, OF_ORDER_6, refused

NO = (0, 1)
ONE = (1, 1)
HALF = (1, 2)
NAMES = ["plain", "middle", "heel", "third", "fourth"]
# the greatest number of twelve figures, and one of thirteen
TWELVE = 10 ** 12 - 1
THIRTEEN = "1" + "0" * 12

# Lines to which a desk answers and is not changed.
LOOKS = ["weigh 3", "grow 3", "powers 4", "order", "step 1/3", "paper", "part [[]]", "mirror 2", "follow 2"]

NO_FRACTIONS = [
    "-0", "+1", "01", "1/1", "0/1", "0/3", "2/4", "1/0", "1/-2", "-", "/", "1/", "/2", "--1", "1.5", "a", "x", "1/2/3",
    THIRTEEN, "-" + THIRTEEN, "1/" + THIRTEEN, THIRTEEN + "/7", "1_0", "1;", ";", "[]", "1*x",
]
NO_REACHES = ["7", "8", "10", "06", "00", "-0", "+1", "-1", "1/2", "6/1", "a", "[]", "1.0", "1000", "\u0663"]


def written(part):
    return str(part[0]) if part[1] == 1 else str(part[0]) + "/" + str(part[1])


def row_of(some):
    return " ".join(written(part) for part in some)


def rows_of(rows):
    return " ; ".join(row_of(row) for row in rows)


def weighing_of(weighing):
    return row_of(weighing) if weighing else "none"


def tree_of(tree):
    return "[" + "".join(tree_of(bough) for bough in tree) + "]"


def order_of(table):
    order, tree = table_order(table)
    return "order " + str(order) + ("" if tree is None else " " + tree_of(tree))


def lines_of(table):
    rows = ["row" + "".join(" " + written(part) for part in row) for row in table[0]]
    return rows + ["last " + row_of(table[1])]


def speeds_of(change):
    return "speeds " + shown_change(change).replace("\n", " ; ")


def desk_behind(lines):
    desk = Desk()
    for line in lines:
        desk.tell(line)
    return desk


def answer(desk, line):
    """The answer, or the class of the refusal."""
    try:
        return desk.tell(line)
    except GroveError as refusal:
        return type(refusal)


def all_answers(desk):
    """What a desk answers to lines that show all that it keeps, a table begun too; the desk is spent behind it."""
    answers = [answer(desk, line) for line in LOOKS]
    answers.append([answer(desk, "start" + " 1/2" * count) for count in range(1, 5)])
    for count in range(41):
        answers.append(answer(desk, "last" + " 1/3" * count))
        if answers[-1] is not NoLine:
            answers.append([answer(desk, line) for line in LOOKS])
    return answers


class DeskTest(unittest.TestCase):
    def talk(self, desk, *lines):
        """Told in turn: each line and the answer that is due."""
        for line, due in lines:
            told = desk.tell(line)
            self.assertEqual(told, due, line)
            self.assertIs(type(told), str)

    def refuse(self, kind, before, *lines):
        """Each line is refused behind the lines before, and nothing is another behind it."""
        due = all_answers(desk_behind(before))
        for line in lines:
            with self.subTest(line):
                desk = desk_behind(before)
                refused(self, kind, desk.tell, line)
                refused(self, kind, desk.tell, line)
                self.assertEqual(all_answers(desk), due)


class Beginning(DeskTest):
    def test_a_new_desk(self):
        self.talk(
            Desk(), ("weigh 4", "1 0 0 0 0 0 0 0"), ("order", "order 1 [[]]"), ("step 1/2", "3/2"), ("step 1", "2"),
            ("grow 4", "1 1 1/2 1/6 1/24"), ("powers 4", "1 1 0 0 0"), ("paper", "yes"), ("part []", "1 1"),
            ("mirror 3", "1 1 1 1"), ("follow 3", "1 -1/2 1/6 1/3"))

    def test_it_begins_with_plain_and_one_unknown(self):
        fresh = all_answers(Desk())
        self.assertEqual(all_answers(desk_behind(["table plain", "speeds x = 1*x", "start 1"])), fresh)
        self.assertEqual(all_answers(desk_behind(["speeds x = 1*x"])), fresh)

    def test_two_desks_know_nothing_of_each_other(self):
        one = Desk()
        other = Desk()
        fresh = all_answers(Desk())
        for line in (
                "row", "row 1/2", "table fourth", "speeds x = 1*y ; y = 1*x", "start 2 3", "row", "row 1/7", "twice"):
            one.tell(line)
        self.assertEqual(all_answers(other), fresh)
        self.assertEqual(all_answers(Desk()), fresh)
        self.assertEqual(one.tell("last 1 1"), "rows 2")
        self.assertEqual(one.tell("grow 1"), "2 3 ; 3 2")

    def test_begun_tables_are_each_desks_own(self):
        one = desk_behind(["row"])
        other = desk_behind(["row", "row 1/2"])
        self.talk(one, ("row 1/3", "told 2"), ("last 1 2", "rows 2"), ("weigh 2", "3 2/3"))
        self.talk(other, ("row 1 1", "told 3"), ("last 1 2 3", "rows 3"), ("weigh 2", "6 7"))


class Tables(DeskTest):
    def test_named_tables(self):
        desk = Desk()
        for name in NAMES:
            table = table_of(name)
            self.talk(
                desk, ("table " + name, "rows " + str(len(table[0]))), ("weigh 6", row_of(table_weighing(table, 6))),
                ("order", order_of(table)))

    def test_no_name(self):
        self.refuse(
            NoName, ["table heel", "row", "row 1/2"], "table Plain", "table fifth", "table x", "table 1", "table table",
            "table plain;", "table plai", "table plainn", "table []", "table none", "table last")

    def test_told_row_by_row(self):
        self.talk(
            Desk(), ("row", "told 1"), ("row 1/3", "told 2"), ("row 0 2/3", "told 3"), ("last 1/4 0 3/4", "rows 3"),
            ("weigh 5", row_of(table_weighing(table_of("third"), 5))), ("order", "order 3 [[][][]]"))
        self.talk(Desk(), ("row", "told 1"), ("last -7/5", "rows 1"), ("weigh 2", "-7/5 0"))

    def test_any_tables_told(self):
        chance = chances(1)
        desk = Desk()
        tables = [some_table(chance, rows, 9) for rows in (1, 2, 3, 4, 5, 6)] + [OF_ORDER_3, OF_ORDER_5, OF_ORDER_6]
        for table in tables + [some_table(chance, 2, TWELVE)]:
            for count, line in enumerate(lines_of(table)[:-1], start=1):
                self.talk(desk, (line, "told " + str(count)))
            self.talk(
                desk, (lines_of(table)[-1], "rows " + str(len(table[0]))), ("order", order_of(table)),
                ("weigh 5", row_of(table_weighing(table, 5))))

    def test_until_last_the_table_stays(self):
        desk = desk_behind(["table heel"])
        due = desk.tell("weigh 3")
        for line in ("row", "row 1/2", "row 1 1"):
            desk.tell(line)
            self.talk(desk, ("weigh 3", due))
        self.talk(desk, ("last 0 1 0", "rows 3"), ("weigh 3", "1 1/2 1/4 0"))

    def test_one_begun_anew(self):
        self.talk(
            Desk(), ("row", "told 1"), ("row 5", "told 2"), ("row", "told 1"), ("row", "told 1"), ("row 1/2", "told 2"),
            ("last 0 1", "rows 2"), ("weigh 3", row_of(table_weighing(table_of("middle"), 3))))
        self.refuse(NoLine, ["row", "row 5", "row"], "row 5 5", "last 5 5")

    def test_one_forgotten_by_a_named_table(self):
        self.refuse(NoLine, ["row", "row 1/2", "table heel"], "row 1", "row 1 1", "last 1 1", "last 1")
        self.talk(
            desk_behind(["row", "row 1/2", "table heel"]), ("row", "told 1"), ("row 1", "told 2"),
            ("last 1 1", "rows 2"))

    def test_last_ends_it(self):
        self.refuse(
            NoLine, ["row", "row 1/2", "last 0 1"], "row 1", "row 1 1", "last 0 1", "last 1", "last", "row 1 1 1")

    def test_other_lines_between_rows(self):
        others = [
            "weigh 3", "grow 2", "powers 2", "order", "paper", "part []", "step 1/2", "mirror 2", "follow 2", "halve",
            "twice", "sharpen 1", "speeds x = 1*y ; y = 1*x", "start 1 2"]
        refused_ones = [
            "table fifth", "row 1 2 3 4 5 6", "last 1 2 3 4 5 6", "nonsense", "", "speeds x", "start 1", "grow 7"]
        desk = Desk()
        for line in ("row", "row 1/3", "row 0 2/3"):
            desk.tell(line)
            for other in others + refused_ones:
                answer(desk, other)
        self.talk(desk, ("last 1/4 0 3/4", "rows 3"), ("order", "order 3 [[][][]]"), ("grow 1", "1 2 ; 2 1"))

    def test_none_begun(self):
        self.refuse(NoLine, [], "row 1", "row 1 1", "last", "last 1", "last 1 1")
        self.refuse(NoLine, ["table fourth"], "row 1", "row 1/6 1/3 1/3 1/6", "last 1/6 1/3 1/3 1/6")

    def test_another_count_of_fractions_than_due(self):
        self.refuse(NoLine, ["row"], "row 1 1", "row 1 1 1", "last", "last 1 1")
        self.refuse(NoLine, ["row", "row 1"], "row 1", "row 1 1 1", "last", "last 1", "last 1 1 1")

    def test_fractions_of_another_form(self):
        for text in NO_FRACTIONS:
            self.refuse(NoLine, ["row"], "row " + text, "last " + text)
            self.refuse(NoLine, ["row", "row 1/2"], "row 1 " + text, "row " + text + " 1", "last " + text + " 1")

    def test_twelve_figures(self):
        most = str(TWELVE)
        self.talk(
            Desk(), ("row", "told 1"), ("row -" + most + "/" + str(TWELVE - 1), "told 2"),
            ("last " + most + " 1/" + most, "rows 2"),
            ("weigh 2", "999999999998000000000002/999999999999 -1/999999999998"))

    def test_forty_rows_at_most(self):
        lines = ["row" + " 1/2" * count for count in range(40)]
        desk = desk_behind(lines[:-1])
        self.talk(desk, (lines[-1], "told 40"))
        self.refuse(TooMany, lines, "row" + " 1/2" * 40)
        self.refuse(NoLine, lines, "row" + " 1/2" * 41, "row" + " 1/2" * 39, "row" + " 1/2" * 39 + " 2/4")
        self.talk(desk, ("last" + " 1/40" * 40, "rows 40"), ("weigh 2", "1 39/4"))
        self.talk(desk_behind(lines), ("row", "told 1"), ("row 1", "told 2"))


class ChangesAndStarts(DeskTest):
    def test_speeds(self):
        self.talk(
            Desk(), ("speeds x = 1*y ; y = -1*x", "speeds 2"), ("grow 3", "1 1 -1/2 -1/6 ; 1 -1 -1/2 1/6"),
            ("speeds x = 0", "speeds 1"), ("grow 2", "1 0 0"),
            ("speeds x = 1/2*x*x*y + -3 ; y = 0 ; z = 1*z", "speeds 3"), ("grow 1", "1 -5/2 ; 1 0 ; 1 1"),
            ("speeds x = 1 ; y = 1*x ; z = 1*y ; w = 1*z", "speeds 4"), ("grow 1", "1 1 ; 1 1 ; 1 1 ; 1 1"))

    def test_any_speeds(self):
        chance = chances(2)
        desk = desk_behind(["table third"])
        for unknowns in (1, 2, 3, 4):
            for greatest in (0, 1, 2, 3):
                change = some_change(chance, unknowns, 12, greatest, 99)
                ones = [ONE] * unknowns
                rows = [[ONE, speed] for speed in change_speeds(change, ones)]
                self.talk(
                    desk, (speeds_of(change), "speeds " + str(unknowns)), ("grow 1", rows_of(rows)),
                    ("grow 3", rows_of(growth_rows(change, ones, 3))),
                    ("powers 3", rows_of(step_rows(table_of("third"), change, ones, 3))))

    def test_speeds_make_a_start_of_ones(self):
        self.talk(
            Desk(), ("start 5", "start"), ("grow 0", "5"), ("speeds x = 1*x", "speeds 1"), ("grow 0", "1"),
            ("speeds x = 0 ; y = 0", "speeds 2"), ("start 2 3", "start"), ("grow 0", "2 ; 3"),
            ("speeds x = 0 ; y = 0", "speeds 2"), ("grow 0", "1 ; 1"))

    def test_figures_of_speeds_go_to_forty(self):
        forty = "9" * 40
        self.talk(
            Desk(), ("speeds x = " + forty + "*x + 1/" + forty, "speeds 1"), ("start 0", "start"),
            ("grow 1", "0 1/" + forty))
        self.refuse(NoText, [], "speeds x = 1" + "0" * 40, "speeds x = 1/1" + "0" * 40)

    def test_no_text(self):
        self.refuse(
            NoText, ["speeds x = 1*y ; y = 1*x", "start 2 3", "row", "row 1/2"],
            "speeds x", "speeds 0", "speeds x =", "speeds x = x", "speeds x = 1*y", "speeds y = 1*y", "speeds = 1",
            "speeds x = 0*x", "speeds x = 2/4*x", "speeds x = 1 + 1*x", "speeds x = 1*x + 1*x", "speeds x = 1*x - 1",
            "speeds x=1*x", "speeds x = 1*x;", "speeds x = 1*x ;", "speeds ; x = 1*x", "speeds x = 1*x; y = 1*y",
            "speeds x = 1*x ;y = 1*y", "speeds x = 1*x ; ; y = 1*y", "speeds x = 1*x y = 1*y",
            "speeds x = 1*x ; x = 1*x", "speeds y = 1*x ; x = 1*x", "speeds x = 1*x ; y = 1*z",
            "speeds x = 0 ; y = 0 ; z = 0 ; w = 0 ; v = 0", "speeds speeds x = 1*x", "speeds 1", "speeds ;",
            "speeds none", "speeds x = -0", "speeds x = 1*x + 0", "speeds x = 0 ; y = 0 ; z = 0 ; w = 0 ; x = 0",
            "speeds x = 1*y*x ; y = 0")

    def test_powers_and_terms_that_are_too_many(self):
        self.refuse(
            NoText, ["table heel"], "speeds x = 1*x*x*x*x", "speeds x = 1*x*x*y*y ; y = 0",
            "speeds x = 0 ; y = 1*y*y*y*y", "speeds x = 1*x*y*z*w ; y = 0 ; z = 0 ; w = 0",
            "speeds x = 1*x*x*x*x*x*x*x*x*x + 1*x")
        chance = chances(3)
        for unknowns in (3, 4):
            for count in (13, 20):
                change = some_change(chance, unknowns, count, 3, 9)
                self.refuse(NoText, ["table heel"], speeds_of(change), speeds_of([[]] + change[1:]))
            change = some_change(chance, unknowns, 12, 3, 9)
            self.talk(Desk(), (speeds_of(change), "speeds " + str(unknowns)))

    def test_start(self):
        self.talk(
            Desk(), ("start -2/3", "start"), ("grow 1", "-2/3 -2/3"), ("start 0", "start"), ("grow 1", "0 0"),
            ("speeds x = 1*y ; y = 1*x", "speeds 2"), ("start 1/2 -7", "start"), ("grow 1", "1/2 -7 ; -7 1/2"),
            ("start " + str(TWELVE) + " 1/" + str(TWELVE), "start"), ("grow 0", str(TWELVE) + " ; 1/" + str(TWELVE)))

    def test_start_of_another_count_or_form(self):
        self.refuse(NoLine, ["start 5"], "start", "start 1 1", "start 1 1 1")
        self.refuse(NoLine, ["speeds x = 0 ; y = 0", "start 5 6"], "start", "start 1", "start 1 1 1", "start 1 ; 1")
        for text in NO_FRACTIONS:
            self.refuse(NoLine, [], "start " + text)
            self.refuse(NoLine, ["speeds x = 0 ; y = 0"], "start 1 " + text, "start " + text + " 1")


class Asked(DeskTest):
    def test_step(self):
        chance = chances(4)
        for name in NAMES + [None]:
            desk = Desk()
            table = some_table(chance, 4, 9) if name is None else table_of(name)
            for line in lines_of(table):
                desk.tell(line)
            for unknowns in (1, 2, 3, 4):
                change = some_change(chance, unknowns, 3, 2, 9)
                desk.tell(speeds_of(change))
                start = [some_fraction(chance, 9) for _ in range(unknowns)]
                desk.tell("start " + row_of(start))
                for length in (NO, ONE, (-2, 3), (1, 10)):
                    self.talk(desk, ("step " + written(length), row_of(step_to(table, change, start, length))))

    def test_step_of_another_form(self):
        self.refuse(NoLine, [], "step", "step 1 1", "step 1 1/2")
        self.refuse(NoLine, ["table heel"], *["step " + text for text in NO_FRACTIONS])
        self.talk(Desk(), ("step " + str(TWELVE), THIRTEEN), ("step 1/" + str(TWELVE), THIRTEEN + "/" + str(TWELVE)))

    def test_step_of_too_many_rows_or_powers(self):
        self.refuse(TooMany, lines_of(some_table(chances(5), 5, 9)), "step 1", "step 0")
        self.refuse(TooMany, ["table fourth", "twice"], "step 1/2")
        self.refuse(TooMany, ["speeds x = 1*x*x*x"], "step 1/2")
        self.refuse(TooMany, ["speeds x = 1*x*y ; y = 1*x*x*y"], "step 1/2")
        self.refuse(TooMany, ["table fourth", "twice", "speeds x = 1*x*x*x"], "step 1/2")
        # the form is looked at first
        self.refuse(NoLine, ["table fourth", "twice", "speeds x = 1*x*x*x"], "step 2/4", "step", "step 1 1")
        self.talk(desk_behind(["table fourth", "speeds x = 1*x*y ; y = -1*y*y"]), ("step 0", "1 1"))

    def test_rows_and_weighings(self):
        chance = chances(6)
        for unknowns in (1, 2, 3, 4):
            table = some_table(chance, 3, 9)
            change = some_change(chance, unknowns, 4, 3, 9)
            start = [some_fraction(chance, 9) for _ in range(unknowns)]
            desk = desk_behind(lines_of(table) + [speeds_of(change), "start " + row_of(start)])
            for most in range(7):
                weighing = table_weighing(table, most)
                self.talk(
                    desk, ("grow " + str(most), rows_of(growth_rows(change, start, most))),
                    ("powers " + str(most), rows_of(step_rows(table, change, start, most))),
                    ("weigh " + str(most), weighing_of(weighing)),
                    ("mirror " + str(most), weighing_of(weighing_mirrored(weighing))),
                    ("follow " + str(most), weighing_of(followed_weighing(weighing))))

    def test_none(self):
        for name in NAMES:
            self.talk(
                desk_behind(["table " + name]), ("weigh 0", "none"), ("mirror 0", "none"), ("follow 0", "none"),
                ("weigh 1", "1"), ("mirror 1", "1"), ("follow 1", "1"), ("grow 0", "1"), ("powers 0", "1"))

    def test_reaches_of_another_form(self):
        for word in ("grow", "powers", "weigh", "mirror", "follow"):
            lines = [word + " " + text for text in NO_REACHES]
            self.refuse(NoLine, ["table heel"], word, word + " 1 1", word + " 2 3", *lines)

    def test_order(self):
        desk = Desk()
        for table in [table_of(name) for name in NAMES] + [OF_ORDER_3, OF_ORDER_5, OF_ORDER_6, ([[]], [HALF])]:
            for line in lines_of(table):
                desk.tell(line)
            self.talk(desk, ("order", order_of(table)))
        self.talk(desk_behind(["table fourth"]), ("order", "order 4 [[][][][]]"))
        self.talk(desk_behind(lines_of(OF_ORDER_6)), ("order", "order 6"))
        self.talk(desk_behind(["row", "last 1/2"]), ("order", "order 0 []"))

    def test_paper(self):
        chance = chances(7)
        for name in NAMES:
            self.talk(desk_behind(["table " + name]), ("paper", "yes"))
        for rows in (1, 2, 3, 4, 5):
            self.talk(desk_behind(lines_of(some_table(chance, rows, 9))), ("paper", "yes"))
        self.refuse(TooMany, lines_of(OF_ORDER_5), "paper")
        self.refuse(TooMany, lines_of(OF_ORDER_6), "paper")
        self.refuse(TooMany, ["table third", "twice"], "paper")

    def test_part(self):
        chance = chances(8)
        for table in (table_of("fourth"), some_table(chance, 3, 9)):
            desk = desk_behind(lines_of(table))
            for tree in trees_to(7):
                due = written(table_weight(table, tree)) + " " + written((1, tree_density(tree)))
                self.talk(desk, ("part " + tree_of(tree), due))

    def test_part_of_another_form(self):
        self.refuse(
            NoLine, ["table heel"], "part", "part [] []", "part [", "part ]", "part [[]", "part []]", "part [][]",
            "part x", "part ()", "part [[][[]]]", "part [[[][]][[[]]]]", "part " + "[" * 8 + "]" * 8,
            "part [[][][][][][][]]", "part 1", "part none", "part [ ]", "part " + "[" * 900 + "]" * 900)

    def test_words_that_stand_alone(self):
        for word in ("order", "paper", "halve", "twice"):
            self.refuse(NoLine, ["table heel"], word + " 1", word + " x", word + " []", word + " " + word, word + " ;")


class TablesJoined(DeskTest):
    def test_sharpen(self):
        for name in NAMES:
            for order in (1, 2, 3, 4, 5, 6):
                table = table_sharpened(table_of(name), order)
                self.talk(
                    desk_behind(["table " + name]), ("sharpen " + str(order), "rows " + str(len(table[0]))),
                    ("weigh 5", row_of(table_weighing(table, 5))), ("order", order_of(table)))
        self.talk(
            desk_behind(["table fourth"]), ("sharpen 4", "rows 12"), ("order", "order 5 [[[][]][][]]"),
            ("sharpen 5", "rows 36"))

    def test_sharpen_of_another_form(self):
        self.refuse(
            NoLine, ["table heel"], "sharpen", "sharpen 0", "sharpen 1 1", *["sharpen " + text for text in NO_REACHES])

    def test_halve(self):
        for name in NAMES:
            table = table_shrunk(table_of(name), HALF)
            again = table_shrunk(table, HALF)
            count = "rows " + str(len(table[0]))
            self.talk(
                desk_behind(["table " + name]), ("halve", count), ("weigh 5", row_of(table_weighing(table, 5))),
                ("halve", count), ("weigh 5", row_of(table_weighing(again, 5))))

    def test_twice(self):
        for name in NAMES:
            table = table_behind(table_of(name), table_of(name))
            again = table_behind(table, table)
            self.talk(
                desk_behind(["table " + name]), ("twice", "rows " + str(len(table[0]))),
                ("weigh 5", row_of(table_weighing(table, 5))), ("twice", "rows " + str(len(again[0]))),
                ("weigh 5", row_of(table_weighing(again, 5))))

    def test_more_than_forty_rows(self):
        self.refuse(TooMany, ["table third", "twice", "twice", "twice"], "twice", "sharpen 1", "sharpen 6")
        self.refuse(TooMany, lines_of(some_table(chances(9), 14, 9)), "sharpen 3")
        self.refuse(TooMany, lines_of(some_table(chances(9), 21, 9)), "twice")
        self.refuse(NoLine, ["table third", "twice", "twice", "twice"], "sharpen 0", "sharpen 7", "twice 1")
        self.talk(desk_behind(lines_of(some_table(chances(9), 13, 9))), ("sharpen 3", "rows 39"))
        self.talk(desk_behind(lines_of(some_table(chances(9), 20, 9))), ("twice", "rows 40"), ("halve", "rows 40"))


class Forms(DeskTest):
    def test_no_line(self):
        self.refuse(
            NoLine, ["table heel", "row", "row 1/2"], "", " ", "  ", "nonsense", "help", "Order", "ORDER", "orders",
            "orde", "tables plain", "table", "table plain heel", "table plain 1", "speed x = 1*x", "speeds", "rows",
            "told 1", "0", "1/2", "[]", "x = 1*x", ";", "order;", "order ; order", "none", "yes", "mirror", "weigh",
            "grow0", "step1/2", "row,1", "-", "answer_table", "tell order")

    def test_blanks(self):
        for line in (
                "table plain", "row", "row 1", "last 1 1", "speeds x = 1*x", "speeds x = 1*x ; y = 1*y", "start 1",
                "step 1/2", "grow 1", "powers 1", "weigh 1", "order", "paper", "part []", "sharpen 1", "halve", "twice",
                "mirror 1", "follow 1", "table fifth", "speeds x = 1*x*x*x*x"):
            wider = [line[:k] + " " + line[k:] for k, sign in enumerate(line) if sign == " "]
            self.refuse(NoLine, ["table heel", "row", "row 1/2"], " " + line, line + " ", *wider)

    def test_line_ends(self):
        for line in ("order", "table plain", "speeds x = 1*x", "part []", "row", "start 1", "step 1"):
            self.refuse(NoLine, ["table heel"], line + "\n", "\n" + line, line + "\n" + line)
        self.refuse(NoLine, [], "speeds x = 1*y\ny = 1*x", "\n", "order\norder")

    def test_tabs_and_other_signs(self):
        self.refuse(NoLine, ["table heel"], "order\t", "table\tplain", "step\t1", "start 1,", "weigh 1;", "grow 1.")

    def test_asking_changes_nothing(self):
        before = ["table third", "speeds x = 1*y ; y = 1*x*x", "start 2 1/3", "row", "row 1/2"]
        due = all_answers(desk_behind(before))
        desk = desk_behind(before)
        for line in LOOKS:
            told = desk.tell(line)
            self.assertEqual(desk.tell(line), told)
        self.assertEqual(all_answers(desk), due)


class Plain:
    """A desk reckoned by the functions that it asks, on lines that it doesn't refuse."""

    def __init__(self):
        self.table = table_of("plain")
        self.change = [[((1,), ONE)]]
        self.start = [ONE]

    def take(self, table):
        self.table = table
        return "rows " + str(len(table[0]))


class LongTalks(DeskTest):
    def test_many_lines_in_turn(self):
        for seed in range(12):
            chance = chances(seed)
            desk = Desk()
            plain = Plain()
            for _ in range(60):
                for line, due in self.some_lines(chance, plain):
                    self.talk(desk, (line, due))

    def some_lines(self, chance, plain):
        kind = chance.randrange(9)
        count = len(plain.table[0])
        if kind == 0:
            name = chance.choice(NAMES)
            return [("table " + name, plain.take(table_of(name)))]
        if kind == 1:
            table = some_table(chance, chance.randint(1, 5), 9)
            lines = lines_of(table)
            told = ["told " + str(k + 1) for k in range(len(lines) - 1)]
            return list(zip(lines, told + [plain.take(copy.deepcopy(table))], strict=True))
        if kind == 2:
            plain.change = some_change(chance, chance.randint(1, 4), 4, 2, 9)
            plain.start = [ONE] * len(plain.change)
            return [(speeds_of(plain.change), "speeds " + str(len(plain.change)))]
        if kind == 3:
            plain.start = [some_fraction(chance, 9) for _ in plain.change]
            return [("start " + row_of(plain.start), "start")]
        if kind == 4 and count <= 10:
            return [("twice", plain.take(table_behind(plain.table, plain.table)))]
        if kind == 5:
            return [("halve", plain.take(table_shrunk(plain.table, HALF)))]
        if kind == 6 and count <= 5:
            order = chance.randint(1, 6)
            return [("sharpen " + str(order), plain.take(table_sharpened(plain.table, order)))]
        return [
            ("order", order_of(plain.table)), ("weigh 4", row_of(table_weighing(plain.table, 4))),
            ("grow 2", rows_of(growth_rows(plain.change, plain.start, 2))),
            ("powers 3", rows_of(step_rows(plain.table, plain.change, plain.start, 3)))]

    def test_speeds_are_read_as_changes_are(self):
        chance = chances(13)
        for _ in range(20):
            change = some_change(chance, chance.randint(1, 4), 5, 3, 9)
            text = shown_change(change)
            self.assertEqual(read_change(text), change)
            self.talk(
                desk_behind(["speeds " + text.replace("\n", " ; ")]),
                ("grow 3", rows_of(growth_rows(change, [ONE] * len(change), 3))))


if __name__ == "__main__":
    unittest.main()
