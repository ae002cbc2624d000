"""The examples of the document, with just their results or errors."""

import unittest

from numbertexts.consoles import Console
from numbertexts.deciding import deciding_digits, least_undecided, undecided_pair
from numbertexts.decimals import compare, is_decimal, plain_decimal
from numbertexts.desks import Desk, SureDesk
from numbertexts.errors import BadText, Coarse, NoCode, NoIndex, Rejected, Wrong
from numbertexts.formats import code_of, count_of, format_error, is_format, told_format, value_of
from numbertexts.hard import count_near, count_ties, each_near, hardest, near_at, tie_at
from numbertexts.hits import (
    count_hits, each_hit, first_hit, greatest_rest, hit_at, least_rest, members)
from numbertexts.lengths import code_with_length, count_length, length_of, longest_length, up_to
from numbertexts.lines import rest_at, sum_of, sum_rows, sum_rows_hold, value_at
from numbertexts.parted import count_parted, first_parted, parted_at
from numbertexts.paths import fewest_bits, needed_guards, path_error, path_fault, read_by
from numbertexts.printing import exact, fixed, rounded, shortest
from numbertexts.printrows import (
    count_wrong_print, cut_print_row, fast_shortest, fewest_print_bits, first_wrong_print, place_of, print_row_error)
from numbertexts.promises import Pledge
from numbertexts.ranges import is_read_as, range_of
from numbertexts.reading import around, is_way, position, read
from numbertexts.rows import cut_row, guarded_read, is_sound, plain_read, row_error
from numbertexts.stairs import first_above, stair_at, sum_of_stair
from numbertexts.steps import (
    corrected_row, correction, fewest_step_bits, greatest_step, step_faults, stepped_row)
from numbertexts.texts import hex_text, number_text, parse_text, read_text
from numbertexts.trips import (
    count_dropped, count_lost, digits_enough, digits_kept, dropped_at, is_enough, is_kept, least_dropped, least_lost,
    lost_at)
from numbertexts.values import Number, Reader
from numbertexts.wrongs import (
    count_slow, count_wrong, each_wrong, first_slow, first_wrong, slow_at, wrong_at)

WAYS = ('even', 'away', 'zero', 'out', 'odd')
T = (3, -2, 2)
B16 = (11, -24, 5)


class Examples(unittest.TestCase):
    def check(self, found, told):
        # The document gives the repr, by which True differs from 1.
        self.assertEqual(repr(found), told)

    def check_raised(self, error, told, action):
        with self.assertRaises(error) as caught:
            action()
        self.check(caught.exception, told)

    def test_point_4(self):
        self.check(
            [value_at((3, 1, 4), 3), rest_at((3, 1, 4), 3), value_at((-3, -1, 4), 3), sum_of((3, 1, 4), 0, 8),
             sum_of((-3, -1, 4), 0, 4)],
            "[2, 2, -3, 20, -7]")

    def test_point_5(self):
        self.check(
            [sum_rows((3, 1, 4), 0, 8), sum_rows((3, 1, 4), 5, 5), sum_rows_hold((3, 1, 4), 0, 8, ((8, 3, 1, 4, 20),))],
            "[((8, 3, 1, 4, 20), (6, 4, 1, 3, 20), (2, 3, 1, 1, 5)), ((0, 3, 16, 4, 0),), False]")

    def test_point_6(self):
        self.check(
            [first_parted((1, 0, 1), (2, 0, 1), 0, 10), count_parted((1, 5, 2), (1, 0, 1), 0, 10),
             parted_at((1, 5, 2), (1, 0, 1), 0, 10, 4), first_parted((2, 1, 4), (1, 0, 2), 0, 10 ** 30)],
            "[1, 8, 6, None]")

    def test_point_7(self):
        self.check(
            [count_hits((7, 3, 10), (0, 1), 0, 10), first_hit((7, 3, 10), (0, 1), 0, 10),
             hit_at((7, 3, 10), (0, 1), 0, 10, 1), list(each_hit((7, 3, 10), (9, 0), 0, 10))],
            "[2, 1, 4, [1, 8]]")
        self.check(
            [least_rest((7, 3, 10), 2, 8), greatest_rest((7, 3, 10), 2, 8), least_rest((7, 3, 10), 8, 8)],
            "[(1, 4), (8, 5), None]")

    def test_point_8(self):
        self.check(
            [members((7, 3, 10), 0, 30), members((7, 3, 10), 0, 30, parity=0), members((2, 1, 4), 0, 30),
             members((2, 0, 4), 0, 30, parity=1)],
            "[(1, 10, 3), (11, 20, 1), None, (2, 4, 7)]")

    def test_point_9(self):
        S = ((1, 2, 8), (1, 5, 8))
        self.check(
            [[stair_at(S, x) for x in (2, 3, 6, 10)], sum_of_stair(S, 0, 8), first_above(S, ((1, 2, 4),), 0, 20),
             first_above(S, ((1, 2, 4),), 3, 10)],
            "[[0, 1, 2, 2], 7, 2, None]")

    def test_point_10(self):
        self.check(
            [is_format((3, -2, 2)), format_error((3, 2, -2)), format_error((0, 5, 1)), format_error([3, -2, 2]),
             told_format('binary16')],
            "[True, 'high', 'precision', 'format', (11, -24, 5)]")
        self.check(
            [count_of(T), value_of(T, 3), value_of(T, 9), code_of(T, 10, -2), code_of(T, 9, -2), code_of(T, 32, 0),
             code_of(T, 0, 7)],
            "[24, (3, -2), (5, -1), 9, None, None, 0]")

    def test_point_11(self):
        self.check(
            [is_decimal((5, 2500)), is_decimal((5, 2501)), is_decimal((True, 0)), plain_decimal((2500, -3)),
             plain_decimal((0, 7)), compare((25, -1), (250, -2)), compare((3, 0), (31, -1))],
            "[True, False, False, (25, -1), (0, 0), 0, -1]")

    def test_points_12_and_13(self):
        self.check(
            [is_way('odd'), is_way('up'), position(T, 9, 4), position(T, 1, 3), position(T, 14, 1), position(T, 40, 1)],
            "[True, False, (17, 2), (4, 3), (19, 1), (26, 1)]")
        self.check(
            [[read(T, way, (225, -2)) for way in WAYS], [read(T, way, (30, 0)) for way in WAYS]],
            "[[8, 9, 8, 9, 9], [24, 24, 23, 24, 23]]")
        self.check(
            [around(T, (225, -2)), around(T, (5, 0)), around(T, (40, 0)), around(T, (0, 3))],
            "[(8, 9), (13, 13), (23, 24), (0, 0)]")
        B64 = told_format('binary64')
        self.check(
            [read(B64, 'even', (1, 23)) == code_of(B64, 5960464477539062, 24),
             read(B64, 'away', (1, 23)) == code_of(B64, 5960464477539063, 24)],
            "[True, True]")

    def test_point_14(self):
        self.check(
            [range_of(T, 'even', 8), range_of(T, 'odd', 8), range_of(T, 'zero', 23), range_of(T, 'zero', 24),
             range_of(T, 'out', 0)],
            "[((15, -3), True, (9, -2), True), ((1, 1), True, (1, 1), True), ((7, 2), True, None, False), None, "
            "((0, 0), True, (0, 0), True)]")
        self.check(
            [is_read_as(T, 'even', 9, (225, -2)), is_read_as(T, 'away', 9, (225, -2)), is_read_as(T, 'even', 24, (30, 0))],
            "[False, True, True]")

    def test_point_14_shortest(self):
        self.check(
            [[shortest(T, 'even', code) for code in (0, 1, 7, 8, 9, 23)],
             [shortest(T, way, 23) for way in ('away', 'zero', 'out', 'odd')]],
            "[[(0, 0), (2, -1), (18, -1), (2, 0), (25, -1), (28, 0)], [(28, 0), (3, 1), (28, 0), (3, 1)]]")
        B64 = told_format('binary64')
        code = code_of(B64, 5960464477539062, 24)
        self.check([shortest(B64, 'even', code), shortest(B64, 'away', code)], "[(1, 23), (9999999999999999, 7)]")

    def test_point_14_other_decimals(self):
        self.check(
            [exact(T, 0), exact(T, 7), exact(T, 23), exact(B16, 1)],
            "[(0, 0), (175, -2), (28, 0), (59604644775390625, -24)]")
        self.check(
            [rounded(T, 7, 1), rounded(T, 7, 2), rounded(T, 7, 9), rounded(T, 9, 1), rounded(B16, 1, 3), rounded(T, 17, 1)],
            "[(2, 0), (18, -1), (175, -2), (2, 0), (596, -10), (1, 1)]")
        self.check(
            [fixed(T, 9, 0), fixed(T, 9, -3), fixed(T, 9, 1), fixed(T, 23, 1), fixed(T, 11, 0)], "[2, 2500, 0, 3, 4]")

    def test_point_15(self):
        self.check(
            [row_error((-1, 12, -7, 1)), row_error((0, 0, 0, 4)), row_error([1, 5, 1, 0]), is_sound((-1, 12, -7, 1)),
             is_sound((-1, 13, -7, 1)), is_sound((1, 5, 1, 0))],
            "[None, 'factor', 'row', True, False, True]")
        self.check(
            [cut_row(-1, 4), cut_row(-1, 5), cut_row(1, 2), cut_row(1, 3), cut_row(0, 1)],
            "[(-1, 12, -7, 1), (-1, 25, -8, 1), (1, 2, 2, 1), (1, 5, 1, 0), (0, 1, 0, 0)]")
        R = (-1, 25, -8, 1)
        self.check([plain_read(T, "even", R, number) for number in (4, 13, 14)], "[2, 5, 5]")
        self.check(
            [guarded_read(T, "even", R, 13), guarded_read(T, "even", R, 14), read(T, "even", (14, -1)),
             plain_read(T, "out", R, 5), plain_read(T, "odd", R, 5)],
            "[5, None, 6, 2, 1]")

    def test_point_16(self):
        self.check(
            [first_wrong(T, "even", 4, (-1, 12, -7, 1)), list(each_wrong(T, "even", 4, (-1, 25, -8, 1))),
             first_wrong(T, "even", 2, (1, 2, 2, 1)), first_wrong(T, "even", 2, (1, 5, 1, 0))],
            "[9, [14], 1, None]")
        self.check(
            [count_wrong(T, "even", 4, (-1, 25, -8, 1)), wrong_at(T, "even", 4, (-1, 25, -8, 1), 0),
             count_wrong(T, "even", 4, (1, 5, 1, 0))],
            "[1, 14, 0]")
        self.check_raised(Coarse, "Coarse(-1)", lambda: count_wrong(T, "even", 4, (-1, 12, -7, 1)))

    def test_point_16_slow_numbers(self):
        self.check(
            [first_slow(T, "even", 4, (-1, 25, -8, 1)), count_slow(T, "even", 4, (-1, 25, -8, 1)),
             first_slow(T, "even", 3, (-1, 25, -8, 1))],
            "[14, 1, None]")
        self.check_raised(NoIndex, "NoIndex(True)", lambda: slow_at(T, "even", 4, (-1, 25, -8, 1), True))

    def test_point_17(self):
        self.check(
            [fewest_bits(T, "even", 4, -1), fewest_bits(T, "even", 4, -1, guarded=True), fewest_bits(T, "even", 6, -1),
             fewest_bits(T, "zero", 4, -1), fewest_bits(T, "even", 2, 1)],
            "[6, 6, None, None, 3]")

    def test_point_18(self):
        ROWS = ((-1, 25, -8, 1), (0, 1, 0, 0))
        self.check(
            [path_error((4, ROWS, (-1,))), path_error((0, ROWS, ())), path_error((4, ROWS[::-1], ())),
             path_error((4, ROWS, (1,)))],
            "[None, (None, 'word'), (1, 'order'), (0, 'guard')]")
        P = (4, ((-1, 25, -8, 1), (0, 1, 0, 0)), (-1,))
        self.check(
            [read_by(T, "even", P, (13, -1)), read_by(T, "even", P, (14, -1)), read_by(T, "even", P, (3, 0)),
             read_by(T, "even", P, (3, 1)), read_by(T, "even", P, (16, -1))],
            "[5, None, 10, None, None]")
        self.check(
            [path_fault(T, "even", (4, ROWS, ())), path_fault(T, "even", (4, ROWS, (-1,))),
             needed_guards(T, "even", 4, ROWS)],
            "[(-1, 14), None, ((-1, 14),)]")

    def test_point_19(self):
        self.check(
            [place_of(5), place_of(0), place_of(-1), print_row_error((5, 0, 0, 9)), print_row_error((5, 52428, -15, 1))],
            "[1, 0, -1, 'factor', None]")
        self.check(
            [cut_print_row(5, 16), cut_print_row(5, 15), cut_print_row(0, 3)],
            "[(5, 52428, -15, 1), (5, 26214, -14, 1), (0, 4, -3, 0)]")

    def test_point_20(self):
        self.check(
            [fast_shortest(B16, 'even', cut_print_row(5, 16), 31743), fast_shortest(B16, 'even', cut_print_row(5, 16), 30720),
             fast_shortest(B16, 'zero', cut_print_row(5, 16), 31743)],
            "[(655, 2), None, None]")
        row = cut_print_row(5, 15)
        self.check(
            [first_wrong_print(B16, row), count_wrong_print(B16, row), first_wrong_print(B16, cut_print_row(5, 16))],
            "[31063, 137, None]")
        self.check([fewest_print_bits((11, -24, 5), 5), fewest_print_bits((3, -2, 2), 0)], "[16, 1]")

    def test_point_21(self):
        self.check(
            [stepped_row(3, 8, 4), stepped_row(3, 8, 11), correction(3, 8, 11), corrected_row(3, 8, 11), stepped_row(3, 8, 2)],
            "[(4, 156, 6, 3), (11, 185, 29, 3), 1, (11, 186, 29, 1), (2, 200, -1, 0)]")
        self.check([step_faults(T, 'even', 3, 3, 1, -1, 1), step_faults(T, 'even', 3, 3, 8, -1, 1)], "[(-1, 1), ()]")
        self.check([fewest_step_bits(T, 'even', 3, 3, -1, -1), greatest_step(T, 'even', 3, 8, -1, 1)], "[2, 27]")

    def test_point_22(self):
        self.check(
            [is_enough(T, 1), least_lost(T, 1), count_lost(T, 1), is_enough(T, 2), least_lost((2, -4, -1), 1)],
            "[False, 5, 10, True, 4]")
        self.check(
            [lost_at(T, 1, 3), lost_at(T, 1, 9), digits_enough(T), digits_enough((11, -24, 5)),
             digits_enough((53, -1074, 971))],
            "[9, 23, 2, 5, 17]")

    def test_point_23(self):
        self.check(
            [is_kept(T, 1), least_dropped(T, 1), count_dropped(T, 1), least_dropped(T, 2), is_kept((4, -2, 4), 1)],
            "[False, (9, 0), 1, (11, -1), True]")
        self.check(
            [dropped_at(T, 1, 0), digits_kept(T), digits_kept((11, -24, 5)), digits_kept((53, -1074, 971))],
            "[(9, 0), 0, 3, 15]")

    def test_point_24(self):
        self.check(
            [length_of(T, 3), length_of(T, 5), length_of(T, 23), longest_length(T), length_of((2, -4, -1), 4)],
            "[1, 2, 2, 2, 1]")
        self.check(
            [count_length(T, 1), count_length(T, 2), count_length(T, 3), up_to(T, 1, 10), up_to(T, 2, 10)],
            "[13, 10, 0, 6, 10]")
        self.check([code_with_length(T, 1, 4), code_with_length(T, 2, 0), code_with_length(T, 2, 9)], "[8, 5, 23]")

    def test_point_25(self):
        found = [deciding_digits(T, way) for way in ("even", "zero", "odd")]
        self.check(
            found + [deciding_digits((53, -1074, 971), "even"), least_undecided(T, "even", 2), least_undecided(T, "odd", 1),
                     least_undecided(T, "odd", 2)],
            "[4, 3, 2, 768, (125, -3), (15, -1), None]")
        one, other = undecided_pair(T, "even", 3)
        self.check([read(T, "even", one) == read(T, "even", other), undecided_pair(T, "even", 4)], "[False, None]")

    def test_point_26(self):
        self.check([count_ties(T, 0, 5), tie_at(T, 0, 5, 0), tie_at(T, 0, 5, 7), count_ties(T, -1, 4)], "[8, 9, 30, 0]")
        self.check(
            [hardest(T, 0, 5), hardest(T, -1, 4), hardest(T, 0, 3), hardest(T, 2, 3)],
            "[(17, (1, 4)), (1, (1, 10)), (1, (1, 2)), None]")
        self.check(
            [count_near(T, 0, 5, 1, 4), near_at(T, 0, 5, 1, 4, 7), count_near(T, 0, 5, 1, 5), list(each_near(T, -1, 4, 1, 10))],
            "[8, 31, 0, [1, 4, 6, 9, 11, 14]]")

    def test_point_27_reading(self):
        self.check(
            [parse_text("-1.50e2"), parse_text("0x1.8p-1"), parse_text("+inf"), parse_text(".5")],
            "[(1, 10, 150, 0), (0, 2, 24, -5), (0, 'inf'), (0, 10, 5, -1)]")
        self.check_raised(BadText, "BadText(5)", lambda: parse_text("1e1201"))
        self.check(
            [read_text(T, "even", "2.25"), read_text(T, "away", "-0x9p-2"), read_text(T, "even", "1e9"),
             read_text(T, "zero", "1e9"), read_text(T, "zero", "inf")],
            "[(0, 8), (1, 9), (0, 24), (0, 23), (0, 24)]")

    def test_point_27_writing(self):
        self.check(
            [number_text(T, "even", 1, 9), number_text(T, "even", 0, 1), number_text(T, "even", 0, 1, style="power"),
             number_text(T, "even", 0, 23, style="power"), number_text(T, "even", 1, 24),
             number_text((1, 60, 60), "even", 0, 1)],
            "['-2.5', '0.2', '2e-1', '2.8e1', '-inf', '1e18']")
        self.check(
            [hex_text(T, 1, 9), hex_text(T, 0, 0), hex_text(T, 0, 20), hex_text(T, 0, 24)],
            "['-0x5p-1', '0x0p0', '0x1p4', 'inf']")

    def test_point_28(self):
        one = Number(T, 9)
        self.check([one.form, one.code], "[(3, -2, 2), 9]")
        self.check(
            [str(one), len(one), (one + -2).code, one - Number(T, 20), Number(T, 9) == Number(T, 9)],
            "['5*2**-1', 2, 7, -11, True]")
        self.check([(25, -1) in one, (275, -2) in one, (226, -2) in one, 2 in one], "[True, False, True, False]")
        self.check_raised(NoCode, "NoCode(24)", lambda: Number((3, -2, 2), 20) + 4)
        self.check(
            [Number(T, 9).moved(B16).code, Number(B16, 1).moved(T), Number(T, 0).moved(B16).code,
             Number(T, 0).is_less(Number(B16, 1))],
            "[16640, None, 0, True]")

    def test_point_29(self):
        reader = Reader(T, 'even', (5, ((-1, 51, -9, 1), (0, 1, 0, 0)), ()))
        self.check(
            [reader((25, -1)), reader((5, 0)), reader((225, -2)), reader.fast, reader.slow, reader.last],
            "[9, 13, 8, 2, 1, ((225, -2), 8)]")

    def test_point_32_pledges(self):
        made = Pledge(8)
        self.check([made.most, made.spare(3), made.spare(255)], "[8, 6, 0]")

    def test_point_30(self):
        desk = Desk(T, 'even', 3)
        self.check([desk.path, desk.fault, len(desk), str(desk)], "[(3, (), ()), None, 0, '0 rows, 0 guards, even, 0 edits']")
        desk = Desk(T, 'even', 3)
        self.check(
            [desk.put(-1, 1, -4, 3), desk.fault, desk.put(-1, 3, -5, 1), desk.rows, desk.fault, Desk.MOST_EDITS],
            "[1, (-1, 4), 2, ((-1, 3, -5, 1),), None, 60]")
        desk = Desk(T, 'even', 3)
        self.check(
            [desk.put(-1, 3, -5, 1), desk.guard(-1), desk.guards, desk.turn('away'), desk.drop(-1), desk.path],
            "[1, 2, (-1,), 3, 4, (3, (), ())]")

    def test_point_31(self):
        desk = Desk((3, -2, 2), 'even', 3)
        self.check_raised(Rejected, "Rejected(1)", lambda: desk.attempt([('put', 0, 1, 0, 0), ('guard', 1)]))
        desk = Desk((3, -2, 2), 'even', 3)
        self.check(
            [desk.put(-1, 3, -5, 1), desk.read('0.5'), desk.read('-1e1'), desk.state(version=0)],
            "[1, (0, 2, True), (1, 17, False), ('even', (), ())]")
        desk = Desk((3, -2, 2), 'even', 3)
        self.check(
            [desk.put(-1, 1, -4, 3), desk.put(0, 1, 0, 0), desk.guard(-1), list(desk.walk()), desk.edits()[2]],
            "[1, 2, 3, [(-1, True, 4), (0, False, None)], ('guard', -1)]")
        one = Desk((3, -2, 2), 'even', 3)
        other = Desk((3, -2, 2), 'even', 3)
        self.check(
            [one.put(0, 1, 0, 0), one == other, other.attempt([('put', 0, 2, -1, 0), ('put', 0, 1, 0, 0)]), one == other],
            "[1, False, 2, True]")

    def test_point_32_sure_desks(self):
        desk = SureDesk((3, -2, 2), 'even', 3, 2)
        self.check([desk.put(-1, 3, -5, 1), desk.spare(desk.rows[0][1])], "[1, 0]")
        self.check_raised(Wrong, "Wrong(-1, 4)", lambda: desk.put(-1, 1, -4, 3))

    def test_point_33(self):
        console = Console(Desk((3, -2, 2), "even", 3))
        lines = ("put -1 3 -5 1", "guard -1", "put 0 1 0 0", "rows", "read 0.5", "read -1e1", "fault")
        self.check(
            [console.execute(line) for line in lines],
            "['ok 1', 'ok 2', 'ok 3', '-1 3 -5 1 guarded, 0 1 0 0', '0.5 fast', '-10 slow', 'none']")
        console = Console(Desk((3, -2, 2), "even", 3))
        lines = ("rows", "guard 1", "turn up", "read 1.2.3", "drop  1", "spare 3", "read", 5)
        self.check(
            [console.execute(line) for line in lines],
            "['none', 'error NoRow', 'error BadWay', 'error BadText', 'unknown command', 'unknown command', "
            "'unknown command', 'unknown command']")


if __name__ == "__main__":
    unittest.main()
