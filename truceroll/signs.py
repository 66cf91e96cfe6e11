"""Sets and numbers written by signs, and read again."""

from truceroll.errors import NoText
from truceroll.sets import is_set

MOST_FIGURES = 60
NO_MEMBERS = "-"


def show_set(part):
    if part == ():
        return NO_MEMBERS
    return "+".join([str(member) for member in part])


def show_family(family):
    return " ".join([show_set(part) for part in family])


def read_set(text):
    if not isinstance(text, str):
        raise NoText("what is no text writes no set")
    if text == NO_MEMBERS:
        return ()
    part = tuple([read_number(word) for word in text.split("+")])
    if not is_set(part):
        raise NoText("the members don't rise")
    return part


def read_number(text):
    if not isinstance(text, str) or not 1 <= len(text) <= MOST_FIGURES:
        raise NoText("what is no text, or has no figures or too many, writes no number")
    if not all(["0" <= sign <= "9" for sign in text]):
        raise NoText("a sign is no figure")
    if text[0] == "0" and text != "0":
        raise NoText("a nought stands ahead")
    return int(text)
