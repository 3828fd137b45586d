"""The words of which source texts are made."""

from samepaper.numbers import is_number

LONGEST_WORD = 8
LONGEST_PATH = 3
MOST_FIGURES = 5

KEPT_WORDS = (
    "add", "sub", "mul", "div", "rest", "less", "same", "pick", "copy", "at", "size",
    "put", "many", "make", "keep",
    "num", "row",
    "record", "function", "end", "let", "set", "give", "if", "else", "while",
    "and", "or", "not", "call", "new",
)


def is_word(text):
    """Whether a text is one to eight small letters."""
    return len(text) <= LONGEST_WORD and text.isascii() and text.isalpha() and text.islower()


def is_name(text):
    """Whether a text is a NAME."""
    return is_word(text) and text not in KEPT_WORDS


def is_path(text):
    """Whether a text is a PATH."""
    names = text.split(".")
    return len(names) <= LONGEST_PATH and all(is_name(name) for name in names)


def is_kind(text):
    """Whether a text is a KIND."""
    return text in ("num", "row") or is_name(text)


def is_figures(text):
    """Whether a text is a whole number's one to five figures, no nought ahead but 0 itself."""
    # The length is asked ahead of any int(..), which Python refuses for texts of thousands of figures.
    if not (len(text) <= MOST_FIGURES and text.isascii() and text.isdigit()):
        return False
    return text == "0" or text[0] != "0"


def number_of(text):
    """The number that a text is the NUMBER of, or None."""
    if text == "-0" or not is_figures(text.removeprefix("-")):
        return None
    number = int(text)
    return number if is_number(number) else None
