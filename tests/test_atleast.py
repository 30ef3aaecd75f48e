"""Stage 5: wishes of at least."""
import random
from fractions import Fraction
from itertools import combinations, product

from helping import BIG, HALF, LESS, ODD, ONE, TWO, ZERO, Case, is_integer, is_number, is_table, is_vector, told

from zeroorone import errors
from zeroorone.tables import atleast
from zeroorone.tables.atleast import bad_lots, follow_answer, greatest_answer, is_bar, is_reaching, reach_answer
from zeroorone.tables.atleast import slacks
from zeroorone.tables.solving import kernel, rank, solve_answer

THREE, AT = ((ONE, ZERO), (ZERO, ONE), (LESS, LESS)), (ZERO, ZERO, LESS)


def fractions(vector):
    return [Fraction(*number) for number in vector]


def sums(one, other):
    return sum(Fraction(*x) * Fraction(*y) for x, y in zip(one, other))


def reaches(table, goal, x):
    return is_vector(0, x, len(table[0]), None) and all(sums(row, x) >= Fraction(*b) for row, b in zip(table, goal))


def weighs(table, y, wish):
    """Whether y is a weight with y A the wish."""
    return (is_vector(0, y, len(table), None) and all(top >= 0 for top, _ in y)
            and all(sums(y, column) == w for column, w in zip(zip(*table), wish)))


def bars(table, goal, y):
    return weighs(table, y, [0] * len(table[0])) and sums(y, goal) == 1


def judge(case, claim, paper):
    """[5.1], word by word; returns the kind."""
    kind, table, goal = claim[:3]
    if kind == "reached":
        case.assertTrue(len(claim) == 3 and reaches(table, goal, paper))
    elif kind == "never reached":
        case.assertTrue(len(claim) == 3 and bars(table, goal, paper))
    elif kind == "greatest":
        (x, y), (wish, value) = paper, claim[3:]
        case.assertTrue(is_number(0, value, None) and reaches(table, goal, x) and sums(wish, x) == Fraction(*value))
        case.assertTrue(weighs(table, y, [-w for w in fractions(wish)]) and sums(y, goal) == -Fraction(*value))
    elif kind == "no greatest":
        (x, d), (wish,) = paper, claim[3:]
        case.assertTrue(reaches(table, goal, x) and reaches(table, (ZERO,) * len(table), d) and sums(wish, d) == 1)
    elif kind == "follows":
        (how, y), (wish, value) = paper, claim[3:]
        case.assertIn(how, ("sum", "never"))
        if how == "sum":
            case.assertTrue(weighs(table, y, fractions(wish)) and sums(y, goal) >= Fraction(*value))
        else:
            case.assertTrue(bars(table, goal, y))
    else:
        wish, value = claim[3:]
        case.assertEqual(kind, "escapes")
        case.assertTrue(reaches(table, goal, paper) and sums(wish, paper) < Fraction(*value))
    return kind


def random_fraction(source, size):
    return told(0, Fraction(source.randint(-size, size), source.choice((1, 1, 2, 3))))


def random_wishes(source, rows, columns):
    size = source.choice((1, 2, 5))
    table = tuple(tuple(random_fraction(source, size) for _ in range(columns)) for _ in range(rows))
    goal = tuple(random_fraction(source, source.choice((0, size))) for _ in range(rows))
    return table, goal, tuple(random_fraction(source, size) for _ in range(columns))


class Parameters(Case):
    def test_constants(self):
        self.assertEqual((atleast.MOST_WISHES, atleast.MOST_LETTERS, atleast.MOST_TRIED), (10, 6, 6))

    def test_first_wrong_argument_is_told(self):
        table = (errors.InvalidTable, None, lambda value: is_table(0, value, 10, 6, 60) and len(value) == 3
                 and len(value[0]) == 2)
        goal = (errors.InvalidTable, None, lambda value: is_vector(0, value, 3))
        wish = (errors.InvalidTable, None, lambda value: is_vector(0, value, 2))
        bound = (errors.InvalidNumber, "given", lambda value: is_number(0, value))
        for call in (reach_answer, bad_lots):
            self.check_refusals(call, (THREE, AT), (table, goal))
        for call in (slacks, greatest_answer):
            self.check_refusals(call, (THREE, AT, (ONE, TWO)), (table, goal, wish))
        self.check_refusals(follow_answer, (THREE, AT, (ONE, TWO), HALF), (table, goal, wish, bound))

    def test_bounds(self):
        for rows, columns in ((1, 1), (10, 6), (10, 1), (1, 6)):
            table, goal = ((ONE,) * columns,) * rows, (HALF,) * rows
            self.assertEqual(judge(self, *reach_answer(table, goal)), "reached")
            self.assertEqual(judge(self, *greatest_answer(table, goal, table[0])), "no greatest")
        for rows, columns in ((11, 1), (1, 7), (0, 1), (1, 0)):
            table, goal = ((ONE,) * columns,) * rows, (HALF,) * rows
            self.refuses(errors.InvalidTable, reach_answer, table, goal)
            self.refuses(errors.InvalidTable, is_reaching, table, goal, None)
        for wrong in ((BIG + 1, 1), (1, BIG + 1), 1, (True, 1), (2, 2), None):
            self.refuses(errors.InvalidTable, reach_answer, ((wrong,),), (ONE,))
            self.refuses(errors.InvalidTable, reach_answer, ((ONE,),), (wrong,))
            self.refuses(errors.InvalidTable, slacks, ((ONE,),), (ONE,), (wrong,))
            self.refuses(errors.InvalidNumber, follow_answer, ((ONE,),), (ONE,), (ONE,), wrong)
        self.assertEqual(reach_answer(((ONE,),), ((BIG, 1),))[0][0], "reached")
        for table in (((ONE, ONE), (ONE,)), [(ONE,)], ([ONE],), (), ((),), (ONE,), ((1,),)):
            self.refuses(errors.InvalidTable, reach_answer, table, (ONE,))
        self.refuses(errors.InvalidTable, reach_answer, THREE, AT[:2])
        self.refuses(errors.InvalidTable, reach_answer, THREE, list(AT))
        self.refuses(errors.InvalidTable, greatest_answer, THREE, AT, AT)

    def test_more_than_six_rows_are_refused_behind_all_others(self):
        seven, goal = ((ONE,),) * 7, (ONE,) * 7
        self.assertEqual(self.refuses(errors.TooMany, bad_lots, seven, goal).limit, 6)
        self.refuses(errors.InvalidTable, bad_lots, seven, goal[:6])
        self.assertEqual(bad_lots(seven[:6], goal[:6]), ())

    def test_is_functions_take_every_value(self):
        for value in ODD:
            self.assertIs(is_reaching(THREE, AT, value), reaches(THREE, AT, value), value)
            self.assertIs(is_bar(THREE, AT, value), bars(THREE, AT, value), value)
            one = ((ONE,),)
            self.assertIs(is_reaching(one, (ZERO,), (value,)), reaches(one, (ZERO,), (value,)), value)
            self.assertIs(is_bar(((ZERO,),), (ONE,), (value,)), bars(((ZERO,),), (ONE,), (value,)), value)
        self.assertIs(is_reaching(((ONE,),), (ZERO,), ((10 ** 200, 1),)), True)
        self.assertIs(is_reaching(((ONE,),), (ZERO,), ((-10 ** 200, 1),)), False)
        self.assertIs(is_bar(((ZERO,), (ONE,)), (ONE, ONE), (ONE, ZERO)), True)
        self.assertIs(is_bar(((ZERO,), (ONE,)), (TWO, ONE), (ONE, ZERO)), False)
        self.assertIs(is_bar(((ONE,), (LESS,)), (ONE, (-3, 1)), ((-1, 2), (-1, 2))), False)
        for call in (is_reaching, is_bar):
            self.refuses(errors.InvalidTable, call, None, AT, None)
            self.refuses(errors.InvalidTable, call, THREE, None, None)


class Answers(Case):
    def test_examples(self):
        self.assertEqual([reach_answer(THREE, (ZERO, ZERO, ONE))[1], slacks(THREE, AT, (ONE, ONE))],
                         [((1, 1), (1, 1), (1, 1)), ((1, 1), (1, 1), (-1, 1))])
        self.assertEqual(greatest_answer(THREE, AT, (ONE, TWO)),
                         (("greatest", THREE, AT, (ONE, TWO), TWO), ((ZERO, ONE), (ONE, ZERO, TWO))))
        self.assertEqual(
            [greatest_answer(THREE[:2], AT[:2], (ONE, TWO))[0][0], follow_answer(THREE, AT, (ONE, ZERO), HALF)[0][0],
             bad_lots(((ONE,), (LESS,), (LESS,)), (ONE, ZERO, ONE))],
            ["no greatest", "escapes", ((0, 1), (0, 2))])
        self.refuses(errors.InvalidTable, reach_answer, THREE, AT[:2])

    def test_random_wishes(self):
        source = random.Random(31)
        kinds = []
        for _ in range(900):
            table, goal, wish = random_wishes(source, source.randint(1, 10), source.randint(1, 6))
            claim, paper = reach_answer(table, goal)
            self.assertEqual(claim[1:], (table, goal))
            kinds.append(judge(self, claim, paper))
            self.assertIs(is_reaching(table, goal, paper), reaches(table, goal, paper))
            self.assertIs(is_bar(table, goal, paper), bars(table, goal, paper))
            top, paper = greatest_answer(table, goal, wish)
            kinds.append(judge(self, top, paper))
            self.assertEqual(top[0] == "never reached", claim[0] == "never reached")
            self.assertEqual(top[1:3], (table, goal))
            bound = random_fraction(source, 9)
            claim, paper = follow_answer(table, goal, wish, bound)
            self.assertEqual(claim[1:], (table, goal, wish, bound))
            kinds.append(judge(self, claim, paper))
            if top[0] == "greatest":
                self.check_bounds_at_the_greatest(table, goal, wish, Fraction(*top[4]))
        for kind in ("reached", "never reached", "greatest", "no greatest", "follows", "escapes"):
            self.assertGreater(kinds.count(kind), 50, kind)

    def check_bounds_at_the_greatest(self, table, goal, wish, value):
        turned = tuple(told(0, -number) for number in fractions(wish))
        for bound, kind in ((-value, "follows"), (-value - Fraction(1, 9), "follows"),
                            (-value + Fraction(1, 9), "escapes")):
            claim, paper = follow_answer(table, goal, turned, told(0, bound))
            self.assertEqual(judge(self, claim, paper), kind)

    def test_just_one_point(self):
        # x is at least 2 and at most 2, y is at least x and at most 2.
        table = ((ONE, ZERO), (LESS, ZERO), (LESS, ONE), (ZERO, LESS))
        goal = (TWO, (-2, 1), ZERO, (-2, 1))
        self.assertEqual(reach_answer(table, goal), (("reached", table, goal), (TWO, TWO)))
        claim, paper = greatest_answer(table, goal, (ONE, LESS))
        self.assertEqual((judge(self, claim, paper), claim[4]), ("greatest", ZERO))
        goal = (TWO, (-2, 1), told(0, Fraction(1, 10 ** 50)), (-2, 1))
        self.assertEqual(judge(self, *reach_answer(table, goal)), "never reached")

    def test_one_wish_that_bars_by_itself(self):
        table, goal = ((ONE,), (ZERO,), (LESS,)), (ZERO, ONE, ZERO)
        self.assertEqual(judge(self, *reach_answer(table, goal)), "never reached")
        self.assertEqual(reach_answer(((ZERO,),), (ONE,))[1], (ONE,))
        self.assertEqual(bad_lots(table, goal), ((1,),))
        self.assertEqual(judge(self, *greatest_answer(table, goal, (ONE,))), "never reached")
        claim, paper = follow_answer(table, goal, (ONE,), (BIG, 1))
        self.assertEqual((judge(self, claim, paper), paper[0]), ("follows", "never"))

    def test_wishes_of_zeros(self):
        zero = (ZERO, ZERO)
        self.assertEqual(judge(self, *reach_answer((zero,), (ZERO,))), "reached")
        claim, paper = greatest_answer((zero, zero), (ZERO, LESS), zero)
        self.assertEqual((judge(self, claim, paper), claim[4]), ("greatest", ZERO))
        self.assertEqual(judge(self, *greatest_answer((zero,), (LESS,), (ONE, ZERO))), "no greatest")
        self.assertEqual(judge(self, *follow_answer((zero,), (LESS,), zero, ZERO)), "follows")
        self.assertEqual(judge(self, *follow_answer((zero,), (LESS,), zero, ONE)), "escapes")
        self.assertEqual(judge(self, *follow_answer((zero,), (LESS,), (ONE, ZERO), (-BIG, 1))), "escapes")

    def test_greatest_values_by_all_corners(self):
        source = random.Random(32)
        for _ in range(60):
            box = ((ONE, ZERO), (ZERO, ONE), (LESS, ZERO), (ZERO, LESS))
            table, goal, wish = random_wishes(source, 3, 2)
            table, goal = table + box, goal + ((-4, 1),) * 4
            corners = []
            for i, j in combinations(range(7), 2):
                pair = (table[i], table[j])
                if rank(0, pair) == 2:
                    corners.append(solve_answer(0, pair, (goal[i], goal[j]))[1])
            corners = [corner for corner in corners if reaches(table, goal, corner)]
            claim, paper = greatest_answer(table, goal, wish)
            judge(self, claim, paper)
            if corners:
                self.assertEqual(Fraction(*claim[4]), max(sums(wish, corner) for corner in corners))
            else:
                self.assertEqual(claim[0], "never reached")

    def test_long_fractions(self):
        source = random.Random(33)

        def long_fraction():
            return told(0, Fraction(source.randint(-BIG, BIG), source.randint(1, BIG)))
        for rows in (10, 7):
            table = tuple(tuple(long_fraction() for _ in range(6)) for _ in range(rows))
            goal = tuple(long_fraction() for _ in range(rows))
            wish = tuple(long_fraction() for _ in range(6))
            judge(self, *reach_answer(table, goal))
            judge(self, *greatest_answer(table, goal, wish))
            judge(self, *follow_answer(table, goal, wish, long_fraction()))

    def test_slacks(self):
        source = random.Random(34)
        for _ in range(100):
            table, goal, x = random_wishes(source, source.randint(1, 5), source.randint(1, 5))
            self.assertEqual(slacks(table, goal, x),
                             tuple(told(0, sums(row, x) - Fraction(*b)) for row, b in zip(table, goal)))

    def test_each_two_wishes_can_be_reached_and_all_cannot(self):
        goal = (ZERO, ZERO, ONE)
        for lot in combinations(range(3), 2):
            claim = reach_answer(tuple(THREE[i] for i in lot), tuple(goal[i] for i in lot))[0]
            self.assertEqual(claim[0], "reached")
        self.assertEqual(reach_answer(THREE, goal)[0][0], "never reached")


class Lots(Case):
    def test_all_lots_of_small_tables(self):
        source = random.Random(35)
        many = 0
        for _ in range(120):
            rows, columns = source.randint(1, 6), source.randint(1, 3)
            table, goal, _ = random_wishes(source, rows, columns)
            bad = {}
            for chosen in product((False, True), repeat=rows):
                lot = tuple(i for i in range(rows) if chosen[i])
                bad[lot] = bool(lot) and reach_answer(tuple(table[i] for i in lot),
                                                      tuple(goal[i] for i in lot))[0][0] == "never reached"
            least = [lot for lot in bad
                     if bad[lot] and not any(bad[lot[:k] + lot[k + 1:]] for k in range(len(lot)))]
            found = bad_lots(table, goal)
            self.assertEqual(found, tuple(sorted(least)))
            self.assertTrue(all(is_integer(i) for lot in found for i in lot))
            for lot in found:
                self.assertLessEqual(len(lot), 1 + rank(0, table))
                part, aim = tuple(table[i] for i in lot), tuple(goal[i] for i in lot)
                y = reach_answer(part, aim)[1]
                self.assertTrue(bars(part, aim, y) and all(top > 0 for top, _ in y))
                # The vectors z with z A = 0 are multiples of one, so y is the only paper.
                self.assertEqual(len(kernel(0, tuple(zip(*part)))), 1)
            many += len(found)
        self.assertGreater(many, 30)

    def test_lots_ascend(self):
        table, goal = ((ONE,), (LESS,), (LESS,), (ONE,)), (ONE, ZERO, ONE, TWO)
        self.assertEqual(bad_lots(table, goal), ((0, 1), (0, 2), (1, 3), (2, 3)))
