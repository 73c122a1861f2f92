"""References, and texts in which backslashes and references are decoded."""

from plainmark.places import is_escape

NAMES = {
    "amp": "&", "lt": "<", "gt": ">", "quot": '"', "apos": "'", "num": "#", "ast": "*",
    "lowbar": "_", "grave": "`", "lsqb": "[", "rsqb": "]", "lpar": "(", "rpar": ")", "lcub": "{",
    "rcub": "}", "bsol": "\\", "excl": "!", "Tab": "\t", "NewLine": "\n",
}

# The allowed signs, each row with the number of its first one.
SIGN_ROWS = (
    (9, "\t\n"),
    (32, " !\"#$"),
    (38, "&'()*+,-./0123456789:;<=>?@ABCDEFGHIJKLMNOPQRSTUVWXYZ[\\]^_`abcdefghijklmnopqrstuvwxyz{|}~"),
)

# The number of signs of the longest reference: "&#", seven digits and ";", or
# "&#x", six digits and ";". So it bounds the digits of both.
LONGEST = 10


def reference_at(text, place):
    """A tuple (place behind, sign) for the reference at a place, or None."""
    if not text.startswith("&", place):
        return None
    end = text.find(";", place, place + LONGEST)
    if end < 0:
        return None
    sign = sign_meant(text[place + 1:end])
    if sign is None:
        return None
    return (end + 1, sign)


def decoded(text):
    """A text with the signs that its backslashes and references stand for."""
    signs = []
    place = 0
    while place < len(text):
        place, sign = decoded_at(text, place)
        signs.append(sign)
    return "".join(signs)


def decoded_at(text, place):
    """A tuple (place behind, sign) for what stands at a place of a text."""
    if is_escape(text, place):
        return (place + 2, text[place + 1])
    reference = reference_at(text, place)
    if reference is None:
        return (place + 1, text[place])
    return reference


def sign_meant(words):
    """The sign that words between "&" and ";" stand for, or None."""
    if words.startswith("#x") or words.startswith("#X"):
        return sign_of(number_in(words[2:], "0123456789abcdef", 16))
    if words.startswith("#"):
        return sign_of(number_in(words[1:], "0123456789", 10))
    return NAMES.get(words)


def number_in(digits, signs, base):
    """The number that digits tell, each of them one of some signs, or None."""
    if digits == "" or not all([digit in signs for digit in digits.lower()]):
        return None
    return int(digits, base)


def sign_of(number):
    """The allowed sign of a number, or None; None, too, for no number."""
    if number is None:
        return None
    for begin, signs in SIGN_ROWS:
        if begin <= number < begin + len(signs):
            return signs[number - begin]
    return None
