"""NAMEs, PATHs and other plain words, and escapes."""

from pagemaker.limits import LAST_DAY, NAME_LETTERS, PATH_NAMES

LETTERS = "abcdefghijklmnopqrstuvwxyz"
FIGURES = "0123456789"
PERCENT = 37


def is_name(thing):
    """Whether it is a text of 1 to 8 letters a to z."""
    if not isinstance(thing, str) or not 1 <= len(thing) <= NAME_LETTERS:
        return False
    return all([sign in LETTERS for sign in thing])


def is_path(thing):
    """Whether it is a text of one to three NAMEs parted by strokes, the first one not tag."""
    if not isinstance(thing, str):
        return False
    names = thing.split("/")
    return len(names) <= PATH_NAMES and names[0] != "tag" and all([is_name(name) for name in names])


def is_sign(sign):
    """Whether texts may have this sign, line feeds aside."""
    return " " <= sign <= "~" and ord(sign) != PERCENT


def is_text(thing, most):
    """Whether it is a text of at most so many signs, line feeds too."""
    if not isinstance(thing, str) or len(thing) > most:
        return False
    return all([sign == "\n" or is_sign(sign) for sign in thing])


def is_line(thing, most):
    """Whether it is a text of at most so many signs, no line feed among them."""
    return is_text(thing, most) and "\n" not in thing


def is_number(thing):
    """Whether it is a number, below 0 too; True and False are none, though Python counts them so."""
    return isinstance(thing, int) and not isinstance(thing, bool)


def is_day(thing):
    """Whether it is a number to 999."""
    return is_number(thing) and 0 <= thing <= LAST_DAY


def figures_in(text):
    """The number that plain figures tell, however many; None where the text is no such figures."""
    if text == "" or not all([sign in FIGURES for sign in text]) or (text[0] == "0" and text != "0"):
        return None
    number = 0
    # One by one, as int() itself refuses very long texts.
    for sign in text:
        number = number * 10 + int(sign)
    return number


def number_in(text, most):
    """The number, at most so great, that plain figures tell; None where the text is no such figures."""
    number = figures_in(text)
    return None if number is None or number > most else number


def escaped(text):
    """The text with each of the four signs told by its word."""
    # The & goes first: the words of the other three have one of their own.
    told = text.replace("&", "&amp;")
    return told.replace("<", "&lt;").replace(">", "&gt;").replace('"', "&quot;")


def plain_of(text):
    """The text whose escaped is just this, None where there's none."""
    plain = text.replace("&lt;", "<").replace("&gt;", ">").replace("&quot;", '"')
    plain = plain.replace("&amp;", "&")
    # Bare signs and words cut off stay as they are above, so only escaping again tells them.
    return plain if escaped(plain) == text else None
