"""Plans as texts: written in rows, and read again."""

from warnloop.errors import NoText
from warnloop.plans import OPENER, is_plan

FIGURES = "0123456789"


def show_place(place):
    """The row of a place, without its line end."""
    kind, address, spur = place
    if kind == "opener":
        return kind
    row = f"{kind} {address}"
    if not spur:
        return row
    hung = ", ".join([f"{spur_kind} {spur_address}" for spur_kind, spur_address in spur])
    return f"{row} : {hung}"


def show_zone(zone):
    """The row of a zone, without its line end."""
    name, addresses = zone
    return " ".join(["zone", name] + [str(address) for address in addresses])


def show_plan(plan):
    """The text of a plan, let by or not."""
    most, loops, zones = plan
    rows = [f"most {most}"]
    for places in loops:
        rows.append("loop")
        rows.extend([show_place(place) for place in places])
    rows.extend([show_zone(zone) for zone in zones])
    return "".join([f"{row}\n" for row in rows])


def read_number(text):
    """The number of one or two figures that the text is, or None."""
    if not 1 <= len(text) <= 2 or not all([sign in FIGURES for sign in text]):
        return None
    return int(text)


def read_device(text):
    """A kind and an address, either perhaps such as no plan has."""
    kind, blank, number = text.partition(" ")
    return (kind, read_number(number))


def read_place(row):
    """The place of a row, perhaps such as no plan has."""
    if row == "opener":
        return OPENER
    here, colon, hung = row.partition(" : ")
    spur = [read_device(text) for text in hung.split(", ")] if colon else []
    kind, address = read_device(here)
    return (kind, address, tuple(spur))


def read_zone(row):
    """The zone of a row, perhaps such as no plan has."""
    word, name, *numbers = row.split(" ")
    return (name, tuple([read_number(number) for number in numbers]))


def read_rows(rows):
    """The plan of these rows, perhaps none; it is for the asker to compare what is shown of it."""
    loops = []
    zones = []
    for row in rows[1:]:
        if row == "loop":
            loops.append([])
        elif row.startswith("zone "):
            zones.append(read_zone(row))
        elif loops:
            loops[-1].append(read_place(row))
        else:
            return None
    word, blank, most = rows[0].partition(" ")
    return (read_number(most), tuple([tuple(places) for places in loops]), tuple(zones))


def read_plan(thing):
    """The plan that the text is written of; NoText where it is none, or no text."""
    if not isinstance(thing, str) or not thing.endswith("\n"):
        raise NoText("a plan is read from rows with a line end behind each")
    plan = read_rows(thing.split("\n")[:-1])
    # Showing it again sees at once to each sign that reading passes over.
    if not is_plan(plan) or show_plan(plan) != thing:
        raise NoText("the rows are not those of a plan")
    return plan
