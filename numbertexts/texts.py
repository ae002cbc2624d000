"""Number texts: what they tell, as which codes they are read, and texts of numbers."""

from numbertexts.bounds import MAX_DIGITS, MAX_EXP
from numbertexts.errors import BadText
from numbertexts.formats import count_of, value_of
from numbertexts.powers import shifted
from numbertexts.printing import shortest
from numbertexts.ranges import odd_parts
from numbertexts.reading import read, read_fraction

DIGITS = "0123456789"
HEX_DIGITS = "0123456789abcdef"
MAX_HEX_DIGITS = 300
MAX_HEX_EXP = 1400
LEAST_POWER = -4
GREATEST_POWER = 16


def sign_at(text, at):
    """Return (sign, at): the sign at this place, if there is one, and the place behind it."""
    if text[at:at + 1] == "-":
        return 1, at + 1
    if text[at:at + 1] == "+":
        return 0, at + 1
    return 0, at


def mantissa_at(text, at, digits, most):
    """Return (number, behind, at): what at most so many digits tell, how many stand behind the ".", the place."""
    number, many, point = 0, 0, None
    while at < len(text):
        if text[at] == "." and point is None:
            point = many
        elif text[at] in digits and many < most:
            number = number * len(digits) + digits.find(text[at])
            many += 1
        else:
            break
        at += 1
    if many == 0:
        raise BadText(at)
    return number, 0 if point is None else many - point, at


def exponent_at_end(text, at, most):
    """Return the exponent of at most so much that stands at this place, up to the end of the text."""
    sign, at = sign_at(text, at)
    if at == len(text):
        raise BadText(at)
    number = 0
    for place in range(at, len(text)):
        if text[place] not in DIGITS:
            raise BadText(place)
        number = number * 10 + DIGITS.find(text[place])
        if number > most:
            raise BadText(place)
    return -number if sign == 1 else number


def check_infinite(text, at):
    """Raise BadText if the text does not end with "inf" at this place."""
    for letter in "inf":
        if text[at:at + 1] != letter:
            raise BadText(at)
        at += 1
    if at < len(text):
        raise BadText(at)


def hex_parts(text, at):
    """Return (n, e) for the n * 2 ** e that stands behind "0x" at this place."""
    number, behind, at = mantissa_at(text, at, HEX_DIGITS, MAX_HEX_DIGITS)
    if text[at:at + 1] != "p":
        raise BadText(at)
    return number, exponent_at_end(text, at + 1, MAX_HEX_EXP) - 4 * behind


def decimal_parts(text, at):
    """Return (n, q) for the n * 10 ** q that stands at this place."""
    number, behind, at = mantissa_at(text, at, DIGITS, MAX_DIGITS)
    if at == len(text):
        return number, -behind
    if text[at] != "e":
        raise BadText(at)
    return number, exponent_at_end(text, at + 1, MAX_EXP) - behind


def parse_text(value):
    """Return what the number text tells: (sign, "inf"), (sign, 10, n, q) or (sign, 2, n, e)."""
    if not isinstance(value, str):
        raise BadText(None)
    sign, at = sign_at(value, 0)
    if value[at:at + 1] == "i":
        check_infinite(value, at)
        return (sign, "inf")
    if value[at:at + 2] == "0x":
        n, e = hex_parts(value, at + 2)
        return (sign, 2, n, e)
    n, q = decimal_parts(value, at)
    return (sign, 10, n, q)


def read_text(form, way, value):
    """Return (sign, code) for the number text."""
    sign, *parts = parse_text(value)
    if parts[0] == "inf":
        return (sign, count_of(form))
    base, n, exponent = parts
    if base == 10:
        return (sign, read(form, way, (n, exponent)))
    num, den = shifted(n, exponent)
    return (sign, read_fraction(form, way, num, den))


def plain_text(digits, q):
    """Return the text of the digits times 10 ** q without an exponent."""
    if q >= 0:
        return digits + "0" * q
    digits = digits.rjust(1 - q, "0")
    return f"{digits[:q]}.{digits[q:]}"


def power_text(digits, t):
    """Return the text of the digits, the first of which stands for 10 ** t, with an exponent."""
    if len(digits) == 1:
        return f"{digits}e{t}"
    return f"{digits[0]}.{digits[1:]}e{t}"


def decimal_text(decimal, style):
    """Return the text of the plain decimal in the style."""
    d, q = decimal
    digits = str(d)
    t = q + len(digits) - 1
    if style == "power" or style == "auto" and (t < LEAST_POWER or t >= GREATEST_POWER):
        return power_text(digits, t)
    return plain_text(digits, q)


def number_text(form, way, sign, code, *, style="auto"):
    """Return the text of the shortest decimal of the code."""
    head = "-" if sign == 1 else ""
    if code == count_of(form):
        return head + "inf"
    return head + decimal_text(shortest(form, way, code), style)


def hex_text(form, sign, code):
    """Return the hexadecimal text of the number with the code."""
    head = "-" if sign == 1 else ""
    if code == count_of(form):
        return head + "inf"
    m, e = value_of(form, code)
    odd, k = odd_parts(m, e)
    return f"{head}0x{odd:x}p{k}"
