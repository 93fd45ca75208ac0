"""Names, ties and webs written in one line, and read again; lines and their words."""

from onceroad.errors import NoLine, NoText
from onceroad.names import is_name
from onceroad.webs import Web
from onceroad.webtext import read_web, show_web

NOTHING = "-"
LONGEST_LINE = 400


def names_text(names):
    return text_or_nothing(names)


def ties_text(ties):
    return text_or_nothing(["-".join(tie) for tie in ties])


def text_or_nothing(words):
    return NOTHING if len(words) == 0 else " ".join(words)


def read_names(text):
    words = words_or_none(text)
    if not all([is_name(word) for word in words]):
        raise NoLine(text)
    return words


def read_ties(text):
    ties = [tuple(word.split("-")) for word in words_or_none(text)]
    if not all([is_written_tie(tie) for tie in ties]):
        raise NoLine(text)
    return ties


def is_written_tie(tie):
    return len(tie) == 2 and is_name(tie[0]) and is_name(tie[1])


def words_or_none(text):
    if not isinstance(text, str):
        raise NoLine(text)
    return [] if text == NOTHING else text.split(" ")


def web_line(web):
    return NOTHING if web.how_many() == 0 else show_web(web).replace("\n", "; ")


def read_web_line(text):
    if not isinstance(text, str) or "\n" in text:
        raise NoLine(text)
    if text == NOTHING:
        return Web([], [])
    # As a web's text it is read, as the web without places; in one line that is written otherwise.
    if text == "":
        raise NoText(0)
    return read_web(text.replace("; ", "\n"))


def words_of(line):
    if not isinstance(line, str) or len(line) > LONGEST_LINE:
        raise NoLine(line)
    words = line.split(" ")
    if not all([is_word(word) for word in words]):
        raise NoLine(line)
    return words


def is_word(text):
    return text != "" and all(["!" <= sign <= "~" for sign in text])
