"""A desk: it keeps a web and a game, and is asked by lines of text."""

from onceroad.answers import answer_to, see
from onceroad.deeds import done, is_deed
from onceroad.errors import NoBack, NoLine, NoMove, NoName, NoNumbers, NoPlace, NoText, NoTie, Odd, TooMany, Twice
from onceroad.names import is_name
from onceroad.plays import Play
from onceroad.webs import Web
from onceroad.words import words_of

# For each first word a sign for each word that has to stand behind it; `web`, with any words behind it, is not here.
FORMS = {
    "place": "A", "unplace": "A", "tie": "AB", "untie": "AB", "play": "A", "road": "A", "stop": "", "go": "A",
    "back": "", "let": "PQ", "undo": "", "redo": "", "see": "", "count": "", "paper": "", "sorts": "", "winner": "A",
    "good": "A", "chosen": "H", "out": "A", "turns": "A", "sides": "", "set": "A", "ties": "A", "moves": "",
    "hand": "", "loser": "", "rows": "H", "wins": "", "left": "", "best": "",
}
ASK_OF_GAME = ("go", "back", "let", "moves", "hand", "loser", "rows", "wins")
ASK_OF_PLAY = ("left", "best")
PLAYER_WORDS = ("nearest", "farthest", "rule")
MOST_FIGURES = 3


class Desk:
    def __init__(self):
        # Web and game as they were at first and behind each deed that stands. No game that is kept here is changed.
        self.states = [(Web([], []), None)]
        # What was behind deeds that are taken back, the last of these last.
        self.undone = []

    def ask(self, line):
        words = words_of(line)
        state = self.states[-1]
        if not is_well_formed(words) or not is_asked_of(words[0], state[1]):
            raise NoLine(line)
        if words[0] == "undo":
            return self.undo()
        if words[0] == "redo":
            return self.redo()
        if is_deed(words[0]):
            self.states.append(done(state[0], state[1], words[0], words[1:]))
            self.undone = []
            return self.look()
        return answer_to(state[0], state[1], words[0], words[1:])

    def undo(self):
        if len(self.states) == 1:
            return "none"
        self.undone.append(self.states.pop())
        return self.look()

    def redo(self):
        if len(self.undone) == 0:
            return "none"
        self.states.append(self.undone.pop())
        return self.look()

    def look(self):
        state = self.states[-1]
        return see(state[0], state[1])

    def run(self, lines):
        return [self.answer_or_refusal(line) for line in lines]

    def answer_or_refusal(self, line):
        try:
            return self.ask(line)
        except NoLine:
            return "no line"
        except NoName:
            return "no name"
        except Twice:
            return "twice"
        except NoPlace:
            return "no place"
        except NoTie:
            return "no tie"
        except TooMany:
            return "too many"
        except NoText:
            return "no text"
        except NoMove:
            return "no move"
        except NoBack:
            return "no back"
        except Odd:
            return "odd"
        except NoNumbers:
            return "no numbers"


def is_well_formed(words):
    if words[0] == "web":
        return len(words) > 1
    if words[0] not in FORMS or len(words) - 1 != len(FORMS[words[0]]):
        return False
    return all([is_as_told(word, sign) for word, sign in zip(words[1:], FORMS[words[0]])])


def is_as_told(word, sign):
    if sign in "AB":
        return is_name(word)
    return is_plain_number(word) if sign == "H" else word in PLAYER_WORDS


def is_plain_number(word):
    if word == "0":
        return True
    return word.isdigit() and len(word) <= MOST_FIGURES and not word.startswith("0")


def is_asked_of(word, game):
    if word in ASK_OF_PLAY:
        return isinstance(game, Play)
    return game is not None or word not in ASK_OF_GAME
