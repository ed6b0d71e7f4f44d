"""Webs and deeds as texts.

A text is read from its first character on; at is always the number of the
character that is read next, or of all characters at the end. So at is the place
to tell wherever a text does not go on as it should, or ends too early.
"""

from samerounds.deeds import has_form
from samerounds.errors import BadDeed, BadText
from samerounds.sets import is_set
from samerounds.webs import MOST_TIES, Web

FIGURES = "0123456789"
BETWEEN = ", "
WORDS = ("part", "twist", "join")


def set_text(some):
    """The text of a set, or of a star."""
    return " ".join([str(tie) for tie in some])


def sets_text(sets):
    """The text of several sets, or stars."""
    return BETWEEN.join([set_text(some) for some in sets])


def web_text(web):
    """The text of a web."""
    return sets_text(web.stars)


def deed_text(deed):
    """The text of a deed on any web."""
    if not is_like_deed(deed):
        raise BadDeed(0)
    return f"{deed[0]} {sets_text(deed[1:])}"


def is_like_deed(value):
    """Whether any value has the form of a deed on any web of as many ties as a web can have."""
    if not any([has_form(value, word, 1 + sets_behind(word)) for word in WORDS]):
        return False
    return all([is_set(some, MOST_TIES) for some in value[1:]])


def sets_behind(word):
    """How many sets stand behind the word of a deed."""
    return 2 if word == "join" else 1


# Reading. What reads a piece of a text returns it, and the place behind it.


def check_text(text):
    """Refuse any value that is no string."""
    if not isinstance(text, str):
        raise BadText(None)


def is_figure(text, at):
    """Whether a figure stands at a place of a text."""
    return at < len(text) and text[at] in FIGURES


def behind(text, at, words):
    """The place behind these words, which stand at a place of a text."""
    for sign in words:
        if at == len(text) or text[at] != sign:
            raise BadText(at)
        at += 1
    return at


def read_number(text, at):
    """A number of one or two figures."""
    if not is_figure(text, at):
        raise BadText(at)
    # Behind a 0 there is no second figure: the 0 would be needless.
    end = at + 2 if text[at] != "0" and is_figure(text, at + 1) else at + 1
    return int(text[at:end]), end


def read_star(text, at):
    """A tuple of one or more numbers, whichever they are."""
    number, at = read_number(text, at)
    star = [number]
    while at < len(text) and text[at] == " ":
        number, at = read_number(text, at + 1)
        star.append(number)
    return tuple(star), at


def read_web(text):
    """The web with this text."""
    check_text(text)
    if text == "":
        return Web([])
    star, at = read_star(text, 0)
    stars = [star]
    while at < len(text):
        star, at = read_star(text, behind(text, at, BETWEEN))
        stars.append(star)
    return Web(stars)


def read_tie(text, at, least):
    """A tie of any web that is not less than this."""
    tie, at = read_number(text, at)
    if not least <= tie < MOST_TIES:
        raise BadText(at)
    return tie, at


def read_set(text, at):
    """A set, perhaps empty."""
    if not is_figure(text, at):
        return (), at
    tie, at = read_tie(text, at, 0)
    some = [tie]
    while at < len(text) and text[at] == " ":
        tie, at = read_tie(text, at + 1, tie + 1)
        some.append(tie)
    return tuple(some), at


def read_word(text):
    """The word of a deed, at the beginning of a text, and a space."""
    for word in WORDS:
        # No two of them begin with the same letter.
        if text[:1] == word[0]:
            return word, behind(text, 0, word + " ")
    raise BadText(0)


def read_deed(text):
    """The tuple of the form of a deed with this text."""
    check_text(text)
    word, at = read_word(text)
    some, at = read_set(text, at)
    sets = [some]
    while len(sets) < sets_behind(word):
        some, at = read_set(text, behind(text, at, BETWEEN))
        sets.append(some)
    if at < len(text):
        raise BadText(at)
    return (word, *sets)
