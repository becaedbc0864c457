"""Warnloop: a house's warning wires, from the plan to the last word of the log."""
