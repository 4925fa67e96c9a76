import itertools
import unittest

from stepgrove.changes import is_change
from stepgrove.errors import NoChange, NoTable, NoText, NoTree, TooMany
from stepgrove.follows import followed_changes
from stepgrove.orders import parting_change
from stepgrove.tables import is_table, table_of
from stepgrove.texts import read_change, read_table, read_tree, shown_change, shown_table, shown_tree
from stepgrove.trees import is_tree, trees_of, trees_to
from stepgrove.weights import table_weighing

from plain import chances, some_change, some_table, some_tables, tables_behind
from things import good_changes, good_tables, no_changes, no_tables, no_trees, own_answer, refused

NO = (0, 1)
ONE = (1, 1)
HALF = (1, 2)
# the greatest number of forty figures, and one of forty-one
FORTY = 10 ** 40 - 1
MORE = 10 ** 40

# Written otherwise than fractions are.
NO_FRACTIONS = [
    "", "-", "/", "--1", "1-", "+1", "+0", "-0", "00", "01", "-01", "007", "0/1", "0/2", "-0/1", "1/1", "-1/1", "5/1",
    "1/0", "0/0", "-1/0", "2/4", "-2/4", "6/3", "3/3", "1/-2", "-1/-2", "1/+2", "1/02", "01/2", "1/2/3", "1//2", "1/",
    "/2", "1.5", "0.5", "1e3", "1_0", "0x1", "a", "x", "one", "1a", "a1", "1,2", "(1,2)", "1;2", "1\t", "\t1", "1*1",
    "1\r", "\u0663", "1/\u0664", "\u00b2", "1:2", "'1'", "None", "True", "- 1", "1/ 2", "1 /2",
    str(MORE), str(-MORE), "1/" + str(MORE + 1), str(MORE) + "/3", "0" * 41, "1" * 60, "1" * 5000, "1/" + "1" * 5000,
]

# In each row a fraction and how it is written.
FRACTIONS = [
    (NO, "0"), (ONE, "1"), ((-1, 1), "-1"), (HALF, "1/2"), ((-1, 2), "-1/2"), ((10, 1), "10"), ((-100, 7), "-100/7"),
    ((3, 10), "3/10"), ((FORTY, 1), "9" * 40), ((-FORTY, 1), "-" + "9" * 40), ((1, FORTY), "1/" + "9" * 40),
    ((-FORTY, FORTY - 1), "-" + "9" * 40 + "/" + "9" * 39 + "8"), ((10 ** 39, 1), "1" + "0" * 39),
    ((123456789012, 100000000003), "123456789012/100000000003"),
]


def bracketed(boughs):
    return "[" + "".join(bracketed(bough) for bough in boughs) + "]"


def written(part):
    return str(part[0]) if part[1] == 1 else str(part[0]) + "/" + str(part[1])


def table_by_point(table):
    text = ""
    for row in table[0]:
        text = text + "row" + "".join(" " + written(part) for part in row) + "\n"
    return text + "last" + "".join(" " + written(part) for part in table[1])


def change_by_point(change):
    lines = []
    for name, some in zip("xyzw", change):
        line = name + " ="
        for k, (powers, part) in enumerate(some):
            line = line + (" + " if k > 0 else " ") + written(part)
            line = line + "".join(("*" + other) * power for other, power in zip("xyzw", powers))
        lines.append(line if some else line + " 0")
    return "\n".join(lines)


class Texts(unittest.TestCase):
    def look(self, thing, show, read, due):
        text = show(thing)
        self.assertEqual(text, due)
        self.assertIs(type(text), str)
        self.assertEqual(read(text), thing)

    def refuse_all(self, read, texts):
        for text in texts:
            with self.subTest(text):
                refused(self, NoText, read, text)


class Trees(Texts):
    def test_known_texts(self):
        self.look((), shown_tree, read_tree, "[]")
        self.look(((),), shown_tree, read_tree, "[[]]")
        self.look((((),), ()), shown_tree, read_tree, "[[[]][]]")
        self.look(((), (), ()), shown_tree, read_tree, "[[][][]]")

    def test_each_tree_is_shown_and_read_again(self):
        for tree in trees_to(7):
            self.look(tree, shown_tree, read_tree, bracketed(tree))

    def test_all_texts_of_brackets_are_trees_or_refused(self):
        known = {bracketed(tree): tree for tree in trees_to(5)}
        for length in range(11):
            for signs in itertools.product("[]", repeat=length):
                text = "".join(signs)
                if text in known:
                    self.assertEqual(read_tree(text), known[text])
                else:
                    refused(self, NoText, read_tree, text)

    def test_boughs_not_in_kept_order(self):
        self.refuse_all(read_tree, ["[[][[]]]", "[[[][]][[[]]]]", "[[[][[]]]]", "[[[]][][[]]]", "[[][[][]]]"])

    def test_brackets_that_do_not_close(self):
        self.refuse_all(read_tree, [
            "[", "]", "][", "[[]", "[]]", "[[]]]", "[[[]]", "[][]", "[[]][]", "[][", "][]", "[[][]", "[" * 7, "]" * 14,
            "[" * 2000, "[" * 1000 + "]" * 1000, "[]" * 1000])

    def test_other_signs(self):
        self.refuse_all(read_tree, [
            "", " ", "\n", "()", "{}", "[ ]", " []", "[] ", "[]\n", "\n[]", "[\n]", "[[],[]]", "[[] []]", "[()]", "[x]",
            "x", "0", "[0]", "tree", "[]x", "<>", "[[]\t[]]", "None", "[[]]]["])

    def test_seven_knots_at_most(self):
        for tree in trees_of(7):
            for more in (tree + ((),), (tree,)):
                self.assertTrue(is_tree(more))
                refused(self, NoText, read_tree, bracketed(more))
        self.refuse_all(read_tree, ["[" * 8 + "]" * 8, "[" + "[]" * 7 + "]", "[" + "[]" * 8 + "]", "[" * 20 + "]" * 20])

    def test_larger_trees_are_shown(self):
        for tree in (((),) * 7, ((),) * 12, (((((((((),),),),),),),),)):
            self.assertEqual(shown_tree(tree), bracketed(tree))

    def test_no_tree(self):
        for thing in no_trees():
            with self.subTest(thing):
                refused(self, NoTree, shown_tree, thing)

    def test_nothing_handed_in_is_changed(self):
        for tree in trees_to(4):
            own_answer(self, shown_tree, tree)
            own_answer(self, read_tree, bracketed(tree))


class Tables(Texts):
    def test_known_texts(self):
        self.look(table_of("plain"), shown_table, read_table, "row\nlast 1")
        self.look(table_of("middle"), shown_table, read_table, "row\nrow 1/2\nlast 0 1")
        self.look(table_of("third"), shown_table, read_table, "row\nrow 1/3\nrow 0 2/3\nlast 1/4 0 3/4")
        self.look(
            ([[], [(-1, 1)], [(-7, 3), (10, 1)]], [(-1, 2), NO, (3, 2)]),
            shown_table, read_table, "row\nrow -1\nrow -7/3 10\nlast -1/2 0 3/2")

    def test_each_table_is_shown_and_read_again(self):
        chance = chances(1)
        tables = some_tables() + good_tables()
        tables = tables + [some_table(chance, rows, FORTY) for rows in (1, 2, 3, 5, 7, 12)]
        for table in tables:
            if all(abs(part[0]) <= FORTY and part[1] <= FORTY for row in table[0] + [table[1]] for part in row):
                self.look(table, shown_table, read_table, table_by_point(table))
            else:
                self.assertEqual(shown_table(table), table_by_point(table))

    def test_forty_rows(self):
        chance = chances(2)
        wide = some_table(chance, 40, FORTY)
        self.look(wide, shown_table, read_table, table_by_point(wide))
        told = tables_behind([table_of("fourth")] * 10)
        self.look(told, shown_table, read_table, table_by_point(told))
        for rows in (41, 42, 60):
            refused(self, NoText, read_table, table_by_point(([[ONE] * k for k in range(rows)], [ONE] * rows)))

    def test_fractions(self):
        for part, text in FRACTIONS:
            self.look(([[]], [part]), shown_table, read_table, "row\nlast " + text)
            self.look(([[], [part]], [HALF, part]), shown_table, read_table, "row\nrow " + text + "\nlast 1/2 " + text)

    def test_no_fractions(self):
        for text in NO_FRACTIONS:
            self.refuse_all(read_table, [
                "row\nlast " + text, "row\nrow " + text + "\nlast 1 1", "row\nrow 1\nlast " + text + " 1",
                "row\nrow 1\nlast 1 " + text, "row\nrow 1\nrow 1 " + text + "\nlast 1 1 1"])

    def test_more_than_forty_figures_are_shown(self):
        table = ([[], [(MORE, 3)]], [(1, MORE), (-MORE * 7, 3)])
        self.assertEqual(shown_table(table), table_by_point(table))
        refused(self, NoText, read_table, shown_table(table))

    def test_another_count_of_rows_or_fractions(self):
        self.refuse_all(read_table, [
            "row", "last", "last 1", "row\nlast", "row\nlast 1 1", "row 1\nlast 1", "row\nrow\nlast 1 1",
            "row\nrow 1 1\nlast 1 1", "row\nrow 1\nlast 1", "row\nrow 1\nlast 1 1 1", "row 1\nrow\nlast 1 1",
            "row\nrow 1\nrow 1\nlast 1 1 1", "row\nrow 1\nrow 1 1 1\nlast 1 1 1", "row 1\nrow 1 1\nlast 1 1"])

    def test_lines_in_another_order_or_of_other_words(self):
        self.refuse_all(read_table, [
            "last 1\nrow", "row\nlast 1\nlast 1", "row\nlast 1\nrow 1", "row\nrow 1", "last 1\nlast 1", "Row\nlast 1",
            "row\nLast 1", "rows\nlast 1", "row\nlasts 1", "ROW\nLAST 1", "table\nrow\nlast 1", "row\n1", "\nlast 1",
            "row last 1", "row;last 1", "row ; last 1", "row\nlast1", "row\nlast,1", "row\nrow1\nlast 1 1", "plain",
            "row\n\nlast 1", "row\nrow 1\n\nlast 1 1", "r\nlast 1", "row\nl 1"])

    def test_blanks_and_line_ends(self):
        self.refuse_all(read_table, [
            "", " ", "\n", "row\nlast 1\n", "\nrow\nlast 1", "row\nlast 1\n\n", "row \nlast 1", " row\nlast 1",
            "row\nlast 1 ", "row\n last 1", "row\nlast  1", "row\nrow  1\nlast 1 1", "row\nrow 1 \nlast 1 1",
            "row\nrow 1\nlast 1  1", "row\nrow 1\nlast 1 1 ", "row\tlast 1", "row\nlast\t1", "row\r\nlast 1",
            "row\n\nlast 1", "row\nlast \n1", "row\nlast 1\r", "row\nrow\n1\nlast 1 1"])

    def test_no_table(self):
        for thing in no_tables():
            with self.subTest(thing):
                refused(self, NoTable, shown_table, thing)

    def test_what_is_read_is_the_askers_own(self):
        for table in some_tables():
            own_answer(self, shown_table, table)
            own_answer(self, read_table, table_by_point(table))
            self.assertTrue(is_table(read_table(table_by_point(table))))


class Changes(Texts):
    def test_known_texts(self):
        self.look([[((1,), ONE)]], shown_change, read_change, "x = 1*x")
        self.look([[]], shown_change, read_change, "x = 0")
        self.look([[((0,), (-3, 1))]], shown_change, read_change, "x = -3")
        self.look(
            [[((2, 1), HALF), ((0, 0), (-3, 1))], []], shown_change, read_change, "x = 1/2*x*x*y + -3\ny = 0")
        self.look(
            [[((0, 1), ONE)], [((1, 1), (-1, 1)), ((1, 0), (7, 5))]],
            shown_change, read_change, "x = 1*y\ny = -1*x*y + 7/5*x")
        self.look(
            [[((0, 0, 0, 1), ONE)], [], [((1, 1, 1, 0), (2, 1))], [((3, 0, 0, 0), (-1, 6)), ((0, 0, 0, 3), (1, 6))]],
            shown_change, read_change, "x = 1*w\ny = 0\nz = 2*x*y*z\nw = -1/6*x*x*x + 1/6*w*w*w")

    def test_each_change_is_shown_and_read_again(self):
        chance = chances(3)
        changes = [change for change in good_changes() if len(change) <= 4]
        for unknowns in (1, 2, 3, 4):
            for greatest in (0, 1, 2, 3):
                for terms in (1, 3, 12, 35):
                    changes.append(some_change(chance, unknowns, terms, greatest, FORTY))
        for change in changes:
            self.look(change, shown_change, read_change, change_by_point(change))

    def test_powers_up_to_nine_and_more(self):
        chance = chances(4)
        for unknowns, greatest in ((1, 9), (2, 9), (3, 9), (4, 9), (1, 400)):
            terms = 40 if unknowns > 1 else greatest + 1
            change = some_change(chance, unknowns, terms, greatest, 99)
            self.look(change, shown_change, read_change, change_by_point(change))

    def test_fractions(self):
        for part, text in FRACTIONS:
            if part != NO:
                self.look([[((0,), part)]], shown_change, read_change, "x = " + text)
                self.look([[((2,), ONE), ((1,), part)]], shown_change, read_change, "x = 1*x*x + " + text + "*x")

    def test_no_fractions(self):
        for text in NO_FRACTIONS + ["0"]:
            # 0 alone is how a speed without terms is written
            if text != "0":
                self.refuse_all(read_change, ["x = " + text])
            self.refuse_all(read_change, [
                "x = " + text + "*x", "x = 1*x + " + text, "x = " + text + " + 1", "x = 1*x*x + " + text + "*x",
                "x = 1*x\ny = " + text + "*y"])

    def test_more_than_forty_figures_are_shown(self):
        change = [[((1,), (-MORE, 3)), ((0,), (1, MORE))]]
        self.assertEqual(shown_change(change), change_by_point(change))
        refused(self, NoText, read_change, shown_change(change))

    def test_told_changes_are_shown(self):
        change = some_change(chances(5), 3, 4, 2, 9)
        for told in followed_changes(change, table_weighing(table_of("heel"), 5)):
            self.assertEqual(shown_change(told), change_by_point(told))
        for tree in trees_to(4):
            told = parting_change(tree)[0]
            self.look(told, shown_change, read_change, change_by_point(told))

    def test_terms_out_of_their_order_or_twice(self):
        self.refuse_all(read_change, [
            "x = 1 + 1*x", "x = 1*x + 1*x*x", "x = 1*x + 1*x", "x = 1*x + -1*x", "x = 1 + 1", "x = 1*x*x + 1 + 1*x",
            "x = 1*y + 1*x\ny = 0", "x = 1*y*y + 1*x\ny = 0", "x = 1*x + 1*x*y\ny = 0", "x = 0\ny = 1*y + 1*x"])

    def test_terms_of_0(self):
        self.refuse_all(read_change, [
            "x = 0*x", "x = 0 + 0", "x = 1*x + 0", "x = 0 + 1", "x = 1*x*x + 0*x + 1", "x = -0", "x = 0/1", "x = 0*x*x",
            "x = 00", "x = 1*x\ny = 0*y", "x = 0 + 1*x"])

    def test_factors_of_another_form(self):
        self.refuse_all(read_change, [
            "x = x", "x = x*x", "x = -x", "x = x*1", "x = 1x", "x = 1*", "x = *x", "x = 1**x", "x = 1*x*", "x = 1*x**2",
            "x = 1*x^2", "x = 1*x2", "x = 1*xx", "x = 1*X", "x = 1*y", "x = 1*w", "x = 1*x*y", "x = 1*v", "x = 2*3*x",
            "x = 1*x*2", "x = 1 *x", "x = 1* x", "x = 1 * x", "x = 1*x * x", "x = 1*z\ny = 0",
            "x = 1*x*w\ny = 0\nz = 0", "x = 1*y*x\ny = 0", "x = 1*x*y*x\ny = 0", "x = 0\ny = 1*y*x", "x = 1/2*x/3",
            "x = 1*x/2", "x = (1)*x"])

    def test_signs_between_terms(self):
        self.refuse_all(read_change, [
            "x = 1*x - 1", "x = 1*x+1", "x = 1*x +1", "x = 1*x+ 1", "x = 1*x + + 1", "x = 1*x +", "x = 1*x + ",
            "x = + 1", "x = 1*x 1", "x = 1*x, 1", "x = 1*x + +1", "x = 1*x  + 1", "x = 1*x +  1", "x = 1*x - -1",
            "x = 1*x ; 1"])

    def test_names(self):
        self.refuse_all(read_change, [
            "y = 1", "y = 1*y", "w = 0", "X = 1", "xx = 1", "v = 1", "x = 1\nx = 1", "y = 1\nx = 1", "x = 1\nz = 1",
            "x = 0\ny = 0\nw = 0", "x = 0\nz = 0\ny = 0", "x = 0\ny = 0\nz = 0\nv = 0", "x = 0\ny = 0\nw = 0\nz = 0",
            "x = 0\ny = 0\nz = 0\nw = 0\nv = 0", "x = 0\ny = 0\nz = 0\nw = 0\nx = 0",
            "x = 0\ny = 0\nz = 0\nw = 0\n = 0", "x = 0\nx = 0\ny = 0", "a = 1", "1 = x", "x0 = 1"])

    def test_blanks_line_ends_and_nothing_at_all(self):
        self.refuse_all(read_change, [
            "", " ", "\n", "x", "x =", "x = ", "x=1", "x =1", "x= 1", "x  = 1", "x =  1", " x = 1", "x = 1 ", "x = 1\n",
            "\nx = 1", "x = 1\n\n", "x = 1\n\ny = 1", "x = 1\ny = 1\n", "x = 1\n y = 1", "x = 1 \ny = 1", "x\n= 1",
            "x = 1*x\n+ 1", "x\t= 1", "x = 1\r\ny = 1", "x == 1", "x = = 1", "= 1", " = 1", "x = 1 = 1", "x := 1", "0",
            "1*x", "x' = 1*x", "x = 1*x ; y = 1*y", "x = 1\x0by = 1", "speeds x = 1"])

    def test_no_change(self):
        for thing in no_changes():
            with self.subTest(thing):
                refused(self, NoChange, shown_change, thing)

    def test_more_than_four_unknowns(self):
        for unknowns in (5, 6, 7, 12):
            change = [[((0,) * unknowns, ONE)]] * unknowns
            refused(self, TooMany, shown_change, change)
            refused(self, TooMany, shown_change, [[]] * unknowns)
            refused(self, NoChange, shown_change, [[((0,) * unknowns, NO)]] * unknowns)
            refused(self, NoChange, shown_change, change + [[]])
        for tree in trees_of(5) + trees_of(7):
            refused(self, TooMany, shown_change, parting_change(tree)[0])

    def test_what_is_read_is_the_askers_own(self):
        for change in good_changes():
            if len(change) <= 4:
                own_answer(self, shown_change, change)
                text = change_by_point(change)
                own_answer(self, read_change, text)
                self.assertTrue(is_change(read_change(text)))


class OneSignOff(Texts):
    """What is read of a text with a sign more, less or another is shown as just that text."""

    def look_around(self, text, signs, read, show):
        read_ones = 0
        for place in range(len(text) + 1):
            near = [text[:place] + sign + text[place:] for sign in signs]
            near = near + [text[:place] + sign + text[place + 1:] for sign in signs] + [text[:place] + text[place + 1:]]
            for other in near:
                try:
                    thing = read(other)
                except NoText:
                    continue
                self.assertEqual(show(thing), other)
                read_ones = read_ones + 1
        self.assertGreater(read_ones, 0)

    def test_trees(self):
        for text in ("[]", "[[[]][]]", "[[[][]][]]"):
            self.look_around(text, "[] \n", read_tree, shown_tree)

    def test_tables(self):
        for text in ("row\nlast 1", "row\nrow 1/2\nlast -10 1", "row\nrow -1/3\nrow 0 2/3\nlast 1/4 0 3/4"):
            self.look_around(text, "0126-/+ \nrowlast_", read_table, shown_table)

    def test_changes(self):
        for text in ("x = 0", "x = 1/2*x*x*y + -3\ny = 10*x", "x = 1*z\ny = 7/5*x*y + 1*x\nz = 0"):
            self.look_around(text, "0125-/+* =\nxyzw_", read_change, shown_change)


if __name__ == "__main__":
    unittest.main()
