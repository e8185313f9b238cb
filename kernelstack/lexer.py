"""Lexer: texts to tokens.

The class of a name is "name" and that of a number is "number"; words and signs are their own classes, and behind the
last token of a text stands one of the class "end of text".
"""

from kernelstack.errors import TextError
from kernelstack.signature import FIRST_SIGNS, LATER_SIGNS, WORDS

SIGNS = ("->", "=>", ":=", "(", ")", "{", "}", ":", ",", ";", "|", "@", "?", "[", "]")
BLANKS = " \n\t\r"
DIGITS = "0123456789"
MOST_DIGITS = 6
END = "end of text"


class Token:
    """A token: its class, its text, and the place where it begins."""

    def __init__(self, kind, text, place):
        self.kind = kind
        self.text = text
        self.place = place

    def shown(self):
        """Return (class, text, place)."""
        return (self.kind, self.text, self.place)


def skip_blanks(text, place):
    """Return the place after blanks, line ends and comments, which run from "--" to the line's end."""
    while place < len(text):
        if text[place] in BLANKS:
            place += 1
        elif text[place:place + 2] == "--":
            place = skip_line(text, place)
        else:
            break
    return place


def skip_line(text, place):
    """Return the place of the next line end, or that of the text's end."""
    while place < len(text) and text[place] != "\n":
        place += 1
    return place


def end_of_run(text, place, signs):
    """Return the place after all signs of a kind that stand from a place on."""
    while place < len(text) and text[place] in signs:
        place += 1
    return place


def token_at(text, place):
    """Return the token that begins at a place; raise TextError if none does."""
    sign = text[place:place + 1]
    if sign != "" and sign in FIRST_SIGNS:
        word = text[place:end_of_run(text, place, LATER_SIGNS)]
        return Token(word if word in WORDS else "name", word, place)
    if sign != "" and sign in DIGITS:
        end = end_of_run(text, place, DIGITS)
        if end - place > MOST_DIGITS:
            raise TextError(f"a number is too long at {place}")
        return Token("number", text[place:end], place)
    for one in SIGNS:
        if text[place:place + len(one)] == one:
            return Token(one, one, place)
    raise TextError(f"no token begins at {place}")


def tokenize(text):
    """Return the tokens of a text, the last one being the token "end of text"; raise TextError."""
    tokens = []
    place = skip_blanks(text, 0)
    while place < len(text):
        token = token_at(text, place)
        tokens.append(token)
        place = skip_blanks(text, place + len(token.text))
    tokens.append(Token(END, "", place))
    return tokens
