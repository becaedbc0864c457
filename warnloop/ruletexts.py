"""Rules as texts: written in rows, and read again."""

from warnloop.errors import NoText
from warnloop.plantexts import read_number
from warnloop.rules import MOST_DEEP, is_rules

# How many words stand behind the first one of a condition that holds no other.
WORDS_BEHIND = {"key": 1, "term": 1, "hours": 3}
WORDS_BEHIND_NUMBER = 2


def show_condition(condition):
    """The text of a condition."""
    word = condition[0]
    if word == "of":
        return f"{condition[1]} of {condition[2]}"
    if word == "hours":
        return f"hours {condition[1]} to {condition[2]}"
    if word in ("key", "term"):
        return f"{word} {condition[1]}"
    one = show_condition(condition[1])
    if word == "not":
        return f"not {one}"
    other = show_condition(condition[2])
    if word == "then":
        return f"({one} then {other} within {condition[3]})"
    return f"({one} {word} {other})"


def show_rules(rules):
    """The text of rules, let by or not."""
    return "".join([f"{word} {call} = {show_condition(condition)}\n" for word, call, condition in rules])


def take_word(text):
    """The word that the text begins with, up to a blank or a bracket, and the text behind it."""
    many = 0
    while many < len(text) and text[many] not in " )":
        many += 1
    return text[:many], text[many:]


def take_words(text, many):
    """So many words that the text begins with, a sign ahead of each, and the text behind them."""
    words = []
    rest = text
    for number in range(many):
        word, rest = take_word(rest[1:])
        words.append(word)
    return words, rest


def read_leaf(text):
    """A condition that holds no other, perhaps such as no rules have, and the text behind it."""
    first, rest = take_word(text)
    words, rest = take_words(rest, WORDS_BEHIND.get(first, WORDS_BEHIND_NUMBER))
    if first == "key":
        return ("key", read_number(words[0])), rest
    if first == "term":
        return ("term", words[0]), rest
    if first == "hours":
        return ("hours", read_number(words[0]), read_number(words[2])), rest
    return ("of", read_number(first), words[1]), rest


def read_pair(text, deep):
    """Two conditions and what stands behind them up to their bracket, and the text behind that."""
    one, rest = read_condition(text, deep)
    word, rest = take_word(rest[1:])
    other, rest = read_condition(rest[1:], deep)
    if word != "then":
        return (word, one, other), rest[1:]
    words, rest = take_words(rest, 2)
    return (word, one, other, read_number(words[1])), rest[1:]


def read_condition(text, deep):
    """A condition that the text begins with, perhaps such as no rules have, and the text behind it."""
    # What is written deeper than a condition may be is refused here, before it is gone down into.
    if deep == 0:
        raise NoText("more conditions stand within one another than may")
    if text.startswith("("):
        return read_pair(text[1:], deep - 1)
    if text.startswith("not "):
        inner, rest = read_condition(text[4:], deep - 1)
        return ("not", inner), rest
    return read_leaf(text)


def read_row(row):
    """The rule of a row, perhaps such as no rules have."""
    head, sign, body = row.partition(" = ")
    word, blank, call = head.partition(" ")
    condition, rest = read_condition(body, MOST_DEEP)
    return (word, read_number(call) if word == "sound" else call, condition)


def read_rules(thing):
    """The rules that the text is written of; NoText where it is none, or no text."""
    if not isinstance(thing, str) or not thing.endswith("\n"):
        raise NoText("rules are read from rows with a line end behind each")
    rules = tuple([read_row(row) for row in thing.split("\n")[:-1]])
    # Showing them again sees at once to each sign that reading passes over.
    if not is_rules(rules) or show_rules(rules) != thing:
        raise NoText("the rows are not those of rules")
    return rules
