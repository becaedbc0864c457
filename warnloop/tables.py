"""Tables: rules as rows that are reckoned one behind another, beat by beat."""

from warnloop.rules import are_warned, check_rules, inner_ones, is_plain, names_in, plain_holds
from warnloop.rules import terms_in_order, terms_of
from warnloop.things import are_rising_within, is_rising, is_row, is_within

MOST_ROWS = 320
MOST_OUTS = 16
MOST_AHEAD = 20


def are_ahead(numbers, at):
    """Whether all of these are numbers of rows ahead of the row at this number."""
    return all([is_within(number, 0, at - 1) for number in numbers])


def is_table_row(thing, at):
    """Whether the thing may be a table's row of this number."""
    if not is_row(thing, 2, 4):
        return False
    word = thing[0]
    if word == "many":
        return len(thing) == 3 and is_within(thing[1], 1, 9) and are_rising_within(thing[2], 1, 30, 1, 99)
    if word == "not":
        return len(thing) == 2 and are_ahead(thing[1:], at)
    if word in ("and", "or"):
        return len(thing) == 3 and are_ahead(thing[1:], at)
    if word == "then":
        return len(thing) == 4 and are_ahead(thing[1:3], at) and is_within(thing[3], 1, MOST_AHEAD)
    return is_plain(thing)


def is_out(thing, many):
    """Whether the thing may be an out of a table of so many rows."""
    return is_row(thing, 2, 2) and is_within(thing[0], 1, 99) and is_within(thing[1], 0, many - 1)


def is_table(thing):
    """Whether the thing is a table."""
    if not is_row(thing, 2, 2) or not is_row(thing[0], 0, MOST_ROWS) or not is_row(thing[1], 0, MOST_OUTS):
        return False
    rows, outs = thing
    if not all([is_table_row(row, at) for at, row in enumerate(rows)]):
        return False
    if not all([is_out(out, len(rows)) for out in outs]):
        return False
    return is_rising([address for address, number in outs])


def terms_reached(rules):
    """The terms that the rows of "sound" name, or that these name, and so on."""
    terms = terms_of(rules)
    found = {}
    ahead = [condition for word, call, condition in rules if word == "sound"]
    while ahead:
        condition = ahead.pop()
        for name in names_in(condition, "term"):
            if name not in found:
                found[name] = True
                ahead.append(terms[name])
    return found


def put_row(condition, zones, known, rows):
    """Puts the condition's rows behind those there are; the number of its own, known telling it of terms."""
    word = condition[0]
    if word == "term":
        return known[condition[1]]
    if word == "of":
        row = ("many", condition[1], zones[condition[2]])
    elif is_plain(condition):
        row = condition
    else:
        inner = [put_row(part, zones, known, rows) for part in inner_ones(condition)]
        # What stands behind two conditions is the number of beats of a "then".
        row = (word,) + tuple(inner) + condition[3:]
    return rows.setdefault(row, len(rows))


def table_of(plan, rules):
    """A table that says at each beat what the rules say."""
    check_rules(plan, rules)
    zones = {name: addresses for name, addresses in plan[2]}
    terms = terms_of(rules)
    reached = terms_reached(rules)
    known = {}
    rows = {}
    # A term that no sound needs would leave rows that nothing names.
    for name in terms_in_order(terms):
        if name in reached:
            known[name] = put_row(terms[name], zones, known, rows)
    outs = [(call, put_row(condition, zones, known, rows)) for word, call, condition in rules if word == "sound"]
    return (tuple(rows), tuple(sorted(outs)))


def row_holds(row, now, past, brought):
    """Whether the row holds at a beat that brings this, by the rows ahead now and by all rows at past beats."""
    warned, turned, hour = brought
    word = row[0]
    if word == "many":
        return are_warned(row[1], row[2], warned)
    if word == "not":
        return not now[row[1]]
    if word == "and":
        return now[row[1]] and now[row[2]]
    if word == "or":
        return now[row[1]] or now[row[2]]
    if word == "then":
        return now[row[2]] and any([held[row[1]] for held in past[-row[3]:]])
    return plain_holds(row, turned, hour)


class Runner:
    """The run of a table."""

    def __init__(self, table):
        self.table = table
        self.past = []

    def beat(self, warned, turned, hour):
        """Takes in what a beat brings; the addresses, rising, whose rows hold."""
        rows, outs = self.table
        now = []
        for row in rows:
            now.append(row_holds(row, now, self.past, (warned, turned, hour)))
        # No row asks for more beats ahead than these.
        self.past = (self.past + [now])[-MOST_AHEAD:]
        return tuple([address for address, number in outs if now[number]])
