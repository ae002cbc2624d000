import copy
import random
import unittest

from numbertexts.errors import BadText
from numbertexts.formats import count_of, told_format, value_of
from numbertexts.printing import shortest
from numbertexts.reading import read
from numbertexts.texts import hex_text, number_text, parse_text, read_text
from slow_ways import SMALL_FORMATS, WAYS, any_values, power, read_by_words

T = (3, -2, 2)
B16 = told_format("binary16")
B64 = told_format("binary64")
GREAT = (B16, B64, (128, -1200, 1200), (1, -1200, 1200), (2, 900, 1200))

DIGITS = "0123456789"
HEX_DIGITS = DIGITS + "abcdef"


def place_of(text):
    """The place of the error that the text leads to, "none" if it leads to none."""
    try:
        parse_text(text)
    except BadText as error:
        return error.place
    return "none"


def ends_by_words(text, at, digits, most):
    """The places behind which digits with perhaps one "." may end, as (is_whole, end)."""
    seen, many = False, 0
    while at < len(text):
        if text[at] == "." and not seen:
            seen = True
        elif text[at] in digits and many < most:
            many += 1
        else:
            break
        at += 1
    return many > 0, at


def is_text_by_words(text):
    """Whether the whole is a number text, or None if it is the beginning of a longer one alone."""
    if text[:1] in ("-", "+"):
        text = text[1:]
    if "inf".startswith(text):
        return True if text == "inf" else None
    letter, digits, most, limit = "e", DIGITS, 1300, 1200
    if text.startswith("0x"):
        text, letter, digits, most, limit = text[2:], "p", HEX_DIGITS, 300, 1400
    is_whole, at = ends_by_words(text, 0, digits, most)
    if at == len(text):
        return True if is_whole and letter == "e" else None
    if not is_whole or text[at] != letter:
        return False
    tail = text[at + 1:]
    if tail[:1] in ("-", "+"):
        tail = tail[1:]
    if tail == "":
        return None
    if any(character not in DIGITS for character in tail):
        return False
    return int(tail) <= limit


def place_by_words(text):
    """The place where the text goes wrong: behind the longest beginning with which some number text goes on."""
    for at in range(len(text)):
        if is_text_by_words(text[:at + 1]) is False:
            return at
    return "none" if is_text_by_words(text) else len(text)


class Parse(unittest.TestCase):
    def test_the_three_kinds_with_signs(self):
        for sign, number in (("", 0), ("-", 1), ("+", 0)):
            self.assertEqual(parse_text(sign + "inf"), (number, "inf"))
            self.assertEqual(parse_text(sign + "12"), (number, 10, 12, 0))
            self.assertEqual(parse_text(sign + "12e-3"), (number, 10, 12, -3))
            self.assertEqual(parse_text(sign + "0x1fp+9"), (number, 2, 31, 9))

    def test_a_point_at_each_place(self):
        for at in range(5):
            text = "1204"[:at] + "." + "1204"[at:]
            self.assertEqual(parse_text(text), (0, 10, 1204, at - 4))
            self.assertEqual(parse_text(text + "e7"), (0, 10, 1204, 7 + at - 4))
            text = "c0de"[:at] + "." + "c0de"[at:]
            self.assertEqual(parse_text("0x" + text + "p7"), (0, 2, 0xc0de, 7 + 4 * (at - 4)))

    def test_zeros(self):
        self.assertEqual(parse_text("0"), (0, 10, 0, 0))
        self.assertEqual(parse_text("-0.00"), (1, 10, 0, -2))
        self.assertEqual(parse_text("0007.500"), (0, 10, 7500, -3))
        self.assertEqual(parse_text("1e0001200"), (0, 10, 1, 1200))
        self.assertEqual(parse_text("1e-00000"), (0, 10, 1, 0))
        self.assertEqual(parse_text("0x000.0p-0001400"), (0, 2, 0, -1404))
        self.assertEqual(parse_text("1e" + "0" * 2900 + "7"), (0, 10, 1, 7))

    def test_numbers_of_digits_at_their_limits(self):
        nines = "9" * 1300
        self.assertEqual(parse_text(nines), (0, 10, 10 ** 1300 - 1, 0))
        self.assertEqual(parse_text("-." + nines + "e-1200"), (1, 10, 10 ** 1300 - 1, -2500))
        self.assertEqual(parse_text(nines + "."), (0, 10, 10 ** 1300 - 1, 0))
        self.assertEqual(parse_text("0" * 1300 + ".e5"), (0, 10, 0, 5))
        self.assertEqual([place_of(nines + "9"), place_of("+" + nines + ".9"), place_of("0" * 1301)], [1300, 1302, 1300])
        self.assertEqual([place_of(nines + ".."), place_of("." + nines + "."), place_of(nines + "x")], [1301, 1301, 1300])
        effs = "f" * 300
        self.assertEqual(parse_text("0x" + effs + "p0"), (0, 2, 16 ** 300 - 1, 0))
        self.assertEqual(parse_text("0x." + effs + "p-1400"), (0, 2, 16 ** 300 - 1, -2600))
        self.assertEqual(parse_text("-0x" + effs + ".p1400"), (1, 2, 16 ** 300 - 1, 1400))
        self.assertEqual([place_of("0x" + effs + "fp0"), place_of("0x0." + effs), place_of("0x" + effs)], [302, 303, 302])

    def test_exponents_at_their_limits(self):
        for text in ("1e1200", "1e-1200", "1e+1200", "0x1p1400", "0x1p-1400", "0x1p+1400", "1e999", "0x1p999"):
            self.assertEqual(place_of(text), "none")
        for text, place in (("1e1201", 5), ("1e-1201", 6), ("1e12000", 6), ("1e9999", 5), ("1e1300", 5), ("1e00001201", 9),
                            ("0x1p1401", 7), ("0x1p-1401", 8), ("0x1p14000", 8), ("0x1p1500", 7), ("0x1p9999", 7)):
            self.assertEqual(place_of(text), place, text)

    def test_texts_that_end_too_early(self):
        for text in ("", "-", "+", ".", "-.", "i", "in", "-i", "+in", "1e", "1e-", "1.5e+", "0x", "0x.", "0x1", "0x1.8",
                     "0x.8", "0x1p", "0x1p-", "0x1e", "0x1e5", "-0xabc"):
            self.assertEqual(place_of(text), len(text), text)

    def test_wrong_characters(self):
        for text, place in (("x", 0), ("--1", 1), ("+-1", 1), ("1-", 1), ("1 ", 1), (" 1", 0), ("1\n", 1), ("1..", 2),
                            (".e1", 1), ("e1", 0), ("1e1.0", 3), ("1e 1", 2), ("1ee", 2), ("1e+-1", 3), ("1E5", 1),
                            ("Inf", 0), ("inf ", 3), ("infi", 3), ("inx", 2), ("ix", 1), ("nan", 0), ("1_0", 1),
                            ("0X1p0", 1), ("00x1p0", 2), ("0.x", 2), ("0x-1p0", 2), ("0xAp0", 2), ("0xgp0", 2), ("0xp0", 2),
                            ("0x1.1.p0", 5), ("0x1p0x", 5), ("0x1p0.0", 5), ("0x1q0", 3), ("0x1P0", 3), ("1p0", 1),
                            ("0x1 ", 3), ("0x.p1", 3), ("1.2.3", 3), ("1x", 1), ("-0x", 3), ("10x1p0", 2), ("+.", 2)):
            self.assertEqual(place_of(text), place, text)

    def test_any_texts_by_the_words(self):
        picker = random.Random(27)
        good = 0
        for k in range(20000):
            text = "".join(picker.choice("01289.e-+pxainf f" if k % 2 else "01.e-x0p17") for _ in range(picker.randint(0, 9)))
            if k % 3 == 0:
                text = "0x" + text
            self.assertEqual(place_of(text), place_by_words(text), text)
            good += place_of(text) == "none"
        self.assertGreater(good, 500)

    def test_values_that_are_no_texts(self):
        for value in any_values():
            kept = copy.deepcopy(value)
            if not isinstance(value, str):
                with self.assertRaises(BadText) as caught:
                    parse_text(value)
                self.assertIs(caught.exception.place, None)
                with self.assertRaises(BadText) as caught:
                    read_text(T, "even", value)
                self.assertIs(caught.exception.place, None)
            else:
                self.assertEqual(place_of(value), place_by_words(value))
            self.assertEqual(value, kept)


class Read(unittest.TestCase):
    def test_decimals(self):
        for form in SMALL_FORMATS:
            for way in WAYS:
                for text, decimal in (("0", (0, 0)), ("2.25", (225, -2)), ("+.125e1", (125, -2)), ("1e1", (1, 1)),
                                      ("28.", (28, 0)), ("30", (30, 0)), ("0.1", (1, -1)), ("1e1200", (1, 1200)),
                                      ("9.5e-1200", (95, -1201))):
                    self.assertEqual(read_text(form, way, text), (0, read(form, way, decimal)), (form, way, text))

    def test_hexadecimal_texts_at_middles_and_beside_them(self):
        for form in SMALL_FORMATS:
            for way in WAYS:
                for code in range(count_of(form)):
                    m, e = value_of(form, code)
                    # The middle above the number, and beside it.
                    for part in (0, 1, 7, 8, 9, 15):
                        n = 16 * m + part
                        wanted = read_by_words(form, way, n * power(2, e - 4))
                        for text in (f"-0x{n:x}p{e - 4}", f"-0x{m:x}.{part:x}p{e}", f"-0x.{n:x}p{e - 4 + 4 * len(f'{n:x}')}"):
                            self.assertEqual(read_text(form, way, text), (1, wanted), (form, way, text))

    def test_the_same_number_as_a_decimal(self):
        picker = random.Random(12)
        for form in (T, B16, B64):
            for way in WAYS:
                for _ in range(30):
                    n, e = picker.randrange(2 ** 70), picker.randint(-90, 20)
                    decimal = (n * 5 ** -e, e) if e < 0 else (n * 2 ** e, 0)
                    self.assertEqual(read_text(form, way, f"0x{n:x}p{e}"), (0, read(form, way, decimal)))

    def test_great_texts_and_beyond(self):
        for form in (T, *GREAT):
            beyond = count_of(form)
            greatest = [read(form, way, (1, 2500)) for way in WAYS]
            for text in ("1e1200", "0x1p1400", "9" * 1300, "0x" + "f" * 300 + "p1400"):
                self.assertEqual([read_text(form, way, text)[1] for way in WAYS], greatest)
            for text in ("1e-1200", "0x.1p-1400", "." + "0" * 1299 + "1e-1200", "0x." + "0" * 299 + "1p-1400"):
                self.assertEqual([read_text(form, way, text)[1] for way in WAYS], [0, 0, 0, 1, 1])
            for way in WAYS:
                self.assertEqual([read_text(form, way, text) for text in ("inf", "+inf", "-inf")],
                                 [(0, beyond), (0, beyond), (1, beyond)])
                self.assertEqual([read_text(form, way, text) for text in ("-0", "0x0p0", "-0x0.00p-1400")],
                                 [(1, 0), (0, 0), (1, 0)])
        self.assertEqual(greatest[2], count_of(GREAT[-1]) - 1)

    def test_wrong_texts(self):
        for text, place in (("1e1201", 5), ("", 0), ("0x1", 3), ("2,5", 1), ("infinity", 3)):
            with self.assertRaises(BadText) as caught:
                read_text(T, "even", text)
            self.assertEqual(caught.exception.place, place)


def text_by_words(decimal, style):
    """The text of a plain decimal by the words of the point, digit by digit."""
    d, q = decimal
    if d == 0:
        return "0e0" if style == "power" else "0"
    s = str(d)
    t = q + len(s) - 1
    if style == "auto":
        style = "power" if t < -4 or t >= 16 else "plain"
    if style == "power":
        return s[0] + ("." + s[1:] if len(s) > 1 else "") + "e" + str(t)
    if q >= 0:
        return s + "0" * q
    while len(s) <= -q:
        s = "0" + s
    return s[:len(s) + q] + "." + s[len(s) + q:]


class Write(unittest.TestCase):
    def codes(self, form):
        beyond = count_of(form)
        if beyond < 300:
            return range(beyond + 1)
        picker = random.Random(beyond)
        picked = (0, 1, 2, 3, beyond // 2, beyond - 1, beyond, *(picker.randrange(beyond) for _ in range(20)))
        return sorted({code for code in picked if code <= beyond})

    def test_three_styles_and_both_signs_and_back(self):
        for form in (*SMALL_FORMATS, *GREAT):
            for way in WAYS:
                for code in self.codes(form):
                    for style in ("plain", "power", "auto"):
                        wanted = "inf"
                        if code < count_of(form):
                            wanted = text_by_words(shortest(form, way, code), style)
                        self.assertEqual(number_text(form, way, 0, code, style=style), wanted, (form, way, code))
                        self.assertEqual(number_text(form, way, 1, code, style=style), "-" + wanted)
                        self.assertEqual(read_text(form, way, wanted), (0, code), (form, way, wanted))
                        self.assertEqual(read_text(form, way, "-" + wanted), (1, code))
                    self.assertEqual(number_text(form, way, 1, code), number_text(form, way, 1, code, style="auto"))

    def test_at_the_limits_between_the_styles(self):
        for text in ("0.0001", "0.0001234", "1234.5", "1000000000000000", "9999999999999998", "0.1", "1"):
            _, code = read_text(B64, "even", text)
            self.assertEqual(number_text(B64, "even", 0, code), text)
        for text in ("1e-5", "9.9999e-5", "1e16", "1.5e22", "5e-324", "1.7976931348623157e308", "1e100"):
            _, code = read_text(B64, "even", text)
            self.assertEqual(number_text(B64, "even", 1, code), "-" + text)
        self.assertEqual(number_text(B64, "even", 0, read_text(B64, "even", "1e16")[1], style="plain"), "1" + "0" * 16)
        self.assertEqual(number_text(B64, "even", 0, read_text(B64, "even", "1e-5")[1], style="plain"), "0.00001")
        self.assertEqual(number_text(B64, "even", 0, read_text(B64, "even", "120")[1], style="power"), "1.2e2")

    def test_zero_and_beyond(self):
        for form in (T, *GREAT):
            for way in WAYS:
                self.assertEqual([number_text(form, way, sign, 0) for sign in (0, 1)], ["0", "-0"])
                self.assertEqual(number_text(form, way, 0, 0, style="plain"), "0")
                self.assertEqual(number_text(form, way, 1, 0, style="power"), "-0e0")
                for style in ("plain", "power", "auto"):
                    self.assertEqual(number_text(form, way, 0, count_of(form), style=style), "inf")

    def test_hex_texts_and_back(self):
        for form in (*SMALL_FORMATS, *GREAT):
            for code in self.codes(form):
                text = hex_text(form, 0, code)
                self.assertEqual(hex_text(form, 1, code), "-" + text)
                for way in WAYS:
                    self.assertEqual(read_text(form, way, text), (0, code), (form, code, text))
                if 0 < code < count_of(form):
                    n, k = text[2:].split("p")
                    m, e = value_of(form, code)
                    self.assertEqual(int(n, 16) * power(2, int(k)), m * power(2, e))
                    self.assertEqual(int(n, 16) % 2, 1)
                    self.assertEqual(f"{int(n, 16):x}", n)
        self.assertEqual(hex_text(B64, 0, count_of(B64) - 1), "0x1fffffffffffffp971")


if __name__ == "__main__":
    unittest.main()
