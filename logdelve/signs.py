"""Texts parted into their signs, for terms and questions alike."""

from logdelve.errors import BadText
from logdelve.values import FIGURES, KEPT_WORDS, LETTERS, NAME_SIGNS, NUMBER, WORD, is_word, number_in

# The kinds of signs, beside numbers and words. Kept words are marks, as they stand for themselves alone;
# the words that begin stages are names, as fields and sources may be called so.
NAME = "name"
MARK = "mark"
END = "end"
MOST_NAME_SIGNS = 20
LONG_MARKS = ("!=", "<=", ">=")
SHORT_MARKS = "=<>+-*()|,@"


class Reader:
    """Goes through the signs of a text, from the first one to its end."""

    def __init__(self, text):
        self.signs = signs_in(text)
        self.passed = 0

    def place(self):
        """Tell where in the text the next sign stands."""
        return self.signs[self.passed][2]

    def sees(self, kind):
        """Tell whether the next sign is of this kind."""
        return self.signs[self.passed][0] == kind

    def sees_one(self, kind, things):
        """Tell whether the next sign is of this kind and one of these."""
        return self.sees(kind) and self.signs[self.passed][1] in things

    def take(self):
        """Go behind the next sign and tell what it is."""
        thing = self.signs[self.passed][1]
        self.passed += 1
        return thing

    def take_kind(self, kind):
        """Take the next sign, which must be of this kind."""
        if not self.sees(kind):
            raise BadText(self.place())
        return self.take()

    def take_one(self, kind, things):
        """Take the next sign, which must be of this kind and one of these."""
        if not self.sees_one(kind, things):
            raise BadText(self.place())
        return self.take()


def signs_in(text):
    """Tell the signs of a text and its end: tuples of the kind, what it is and the place."""
    signs = []
    at = 0
    while at < len(text):
        if text[at] == " ":
            at += 1
        else:
            kind, thing, end = sign_at(text, at)
            signs.append((kind, thing, at))
            at = end
    signs.append((END, "", len(text)))
    return signs


def sign_at(text, at):
    """Tell the kind of the sign that begins at a place, what it is and where it ends."""
    if text[at] in LETTERS:
        return name_at(text, at)
    if text[at] == "'":
        return word_at(text, at)
    if is_figure_at(text, at) or (text[at] == "-" and is_figure_at(text, at + 1)):
        return number_at(text, at)
    return mark_at(text, at)


def is_figure_at(text, at):
    """Tell whether there is a figure at a place, which may be behind the text's end."""
    return at < len(text) and text[at] in FIGURES


def end_of_run(text, at, signs):
    """Tell the first place from at on that has none of the signs."""
    while at < len(text) and text[at] in signs:
        at += 1
    return at


def name_at(text, at):
    """Tell the name or the kept word that begins at a place."""
    end = end_of_run(text, at, NAME_SIGNS)
    name = text[at:end]
    if len(name) > MOST_NAME_SIGNS:
        raise BadText(at)
    return MARK if name in KEPT_WORDS else NAME, name, end


def word_at(text, at):
    """Tell the word whose first quote is at a place."""
    quote = text.find("'", at + 1)
    word = text[at + 1:quote]
    if quote < 0 or not is_word(word):
        raise BadText(at)
    return WORD, word, quote + 1


def number_at(text, at):
    """Tell the number that begins at a place, with a figure or with the sign ahead of one."""
    end = end_of_run(text, at + 1, FIGURES)
    number = number_in(text[at:end])
    if number is None:
        raise BadText(at)
    return NUMBER, number, end


def mark_at(text, at):
    """Tell the mark that begins at a place: the longer one where there are two ways."""
    if text[at:at + 2] in LONG_MARKS:
        return MARK, text[at:at + 2], at + 2
    if text[at] in SHORT_MARKS:
        return MARK, text[at], at + 1
    raise BadText(at)
