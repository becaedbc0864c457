"""The desk: it is told texts, and answers by texts."""

from warnloop.errors import NoPlan, NoRow, NoRules, NoStretch
from warnloop.finding import heard_from_both, told_place
from warnloop.plans import wrong
from warnloop.plantexts import read_number, read_plan
from warnloop.rules import rules_wrong
from warnloop.ruletexts import read_rules
from warnloop.tables import Runner, table_of
from warnloop.things import are_rising_within, is_within, show_words
from warnloop.wires import Wires


def read_plain(word):
    """The number of one or two figures, without a nought ahead, that the word is; else None."""
    number = read_number(word)
    return number if str(number) == word else None


def read_numbers(words, many):
    """The so many numbers that the words are; else NoRow."""
    numbers = tuple([read_plain(word) for word in words])
    if len(numbers) != many or None in numbers:
        raise NoRow("so many numbers do not stand here")
    return numbers


def take_list(words, name, low, high):
    """The rising numbers behind this word, if the words begin with it, and the words behind them."""
    if words[:1] != [name]:
        return (), words
    numbers = [read_plain(word) for word in words[1:]]
    many = (numbers + [None]).index(None)
    told = tuple(numbers[:many])
    if not are_rising_within(told, 1, 30, low, high):
        raise NoRow("behind this word stand rising numbers within their bounds")
    return told, words[many + 1:]


def read_beat(words):
    """What the words behind "beat" bring: who is warned, which keys are turned, and the hour."""
    hour = read_numbers(words[:1], 1)[0]
    warned, rest = take_list(words[1:], "warned", 1, 99)
    turned, rest = take_list(rest, "keys", 0, 9)
    if rest or not is_within(hour, 0, 23):
        raise NoRow("no beat is told so")
    return (warned, turned, hour)


def show_list(texts):
    """The texts with blanks between, or that there are none."""
    return " ".join(texts) if texts else "none"


def show_numbers(numbers):
    """A spot, a stretch or an opener as a text."""
    return ".".join([str(number) for number in numbers])


def show_place_told(told):
    """Where a fault may be, as a text."""
    if told[0] != "some":
        return told[0]
    return "; ".join([f"{show_numbers(stretch)} {how}" for stretch, how in told[1]])


class Desk:
    """A desk that keeps a plan with its wires, and rules with their run."""

    def __init__(self):
        self.wires = None
        self.run = None

    def say(self, thing):
        """Tells the desk a text; its answer."""
        if not isinstance(thing, str):
            raise NoRow("a desk is told texts")
        head, line_end, text = thing.partition("\n")
        if line_end:
            return self.take_text(head, text)
        word, *rest = thing.split(" ")
        if word in ("cut", "short", "mend"):
            return self.do_deed(word, read_numbers(rest, 3))
        if word == "heard" and rest[1:] in (["A"], ["B"]):
            return self.tell_heard(read_numbers(rest[:1], 1), rest[1])
        if word == "parted" and not rest:
            return self.tell_parted()
        if word == "where":
            return self.tell_where(read_numbers(rest, 1))
        if word == "beat":
            return self.tell_beat(read_beat(rest))
        raise NoRow("a desk knows no such row")

    def take_text(self, head, text):
        """Keeps a plan or rules; what is wrong, if anything is."""
        if head == "plan":
            return self.take_plan(read_plan(text))
        if head == "rules":
            return self.take_rules(read_rules(text))
        raise NoRow("a desk is told plans and rules in many rows, and nothing else")

    def take_plan(self, plan):
        """Keeps the plan, with fresh wires and no rules; else what is wrong with it."""
        found = wrong(plan)
        if found is not None:
            return show_words(found)
        self.wires = Wires(plan)
        self.run = None
        return "kept"

    def take_rules(self, rules):
        """Keeps the rules, and their run begins; else what is wrong with them."""
        self.check_plan()
        found = rules_wrong(self.wires.plan, rules)
        if found is not None:
            return show_words(found)
        self.run = Runner(table_of(self.wires.plan, rules))
        return "kept"

    def check_plan(self):
        """Refuses all where no plan is kept."""
        if self.wires is None:
            raise NoPlan("no plan is kept")

    def check_loop(self, loop):
        """Refuses a loop that the plan has not."""
        self.check_plan()
        if loop >= len(self.wires.plan[1]):
            raise NoStretch("the plan has no such loop")

    def do_deed(self, word, stretch):
        """Cuts, shorts or mends the stretch, and brings all to rest."""
        self.check_plan()
        if word == "cut":
            self.wires.cut(stretch)
        elif word == "short":
            self.wires.short(stretch)
        else:
            self.wires.mend(stretch)
        self.wires.come_to_rest()
        return "ok"

    def tell_heard(self, numbers, end):
        """The spots heard from this end of the loop."""
        self.check_loop(numbers[0])
        return show_list([show_numbers(spot) for spot in self.wires.heard(numbers[0], end)])

    def tell_parted(self):
        """The openers that are parted."""
        self.check_plan()
        return show_list([show_numbers(opener) for opener in self.wires.parted()])

    def tell_where(self, numbers):
        """Where a fault of the loop may be."""
        self.check_loop(numbers[0])
        from_a, from_b = heard_from_both(self.wires, numbers[0])
        return show_place_told(told_place(self.wires.plan, numbers[0], from_a, from_b))

    def tell_beat(self, brought):
        """What the rules' run tells at a beat that brings this."""
        self.check_plan()
        if self.run is None:
            raise NoRules("no rules are kept")
        warned, turned, hour = brought
        return show_list([str(address) for address in self.run.beat(warned, turned, hour)])
