"""Whole, closed and parting papers as texts, and read back from them, whether they hold or not."""

from oftenlots.errors import NoText
from oftenlots.texts import joined, read_number, split_in, taken_apart


def show_numbers(numbers):
    if len(numbers) == 0:
        return "-"
    return " ".join([str(number) for number in numbers])


def read_numbers(text):
    if text == "-":
        return []
    return [read_number(word) for word in text.split(" ")]


# The pieces behind the word that says what paper it is.
def pieces_of(text, word, many):
    pieces = split_in(text, " | ", many + 1)
    if pieces[0] != word:
        raise NoText("this text is another paper's")
    return pieces[1:]


def show_whole(paper):
    return " | ".join(["whole", show_marked(paper[0]), show_marked(paper[1])])


def show_marked(rows):
    return joined("; ", [str(row[0]) + ": " + show_numbers(row[1]) for row in rows])


def read_whole(text):
    pieces = pieces_of(text, "whole", 2)
    return (read_marked(pieces[0]), read_marked(pieces[1]))


def read_marked(text):
    return [read_marked_row(part) for part in taken_apart("; ", text)]


def read_marked_row(text):
    sides = split_in(text, ": ", 2)
    return (read_number(sides[0]), read_numbers(sides[1]))


def show_closed(paper):
    return "closed | " + joined("; ", [show_closed_row(row) for row in paper])


def show_closed_row(row):
    return show_numbers(row[:2]) + ": " + joined(", ", [show_reason(reason) for reason in row[2]])


def show_reason(reason):
    if reason[1] == "leads":
        return str(reason[0]) + " leads " + str(reason[2])
    return str(reason[0]) + " rare " + show_numbers(reason[2])


def read_closed(text):
    pieces = pieces_of(text, "closed", 1)
    return [read_closed_row(part) for part in taken_apart("; ", pieces[0])]


def read_closed_row(text):
    sides = split_in(text, ": ", 2)
    head = split_in(sides[0], " ", 2)
    reasons = [read_reason(part) for part in taken_apart(", ", sides[1])]
    return (read_number(head[0]), read_number(head[1]), reasons)


def read_reason(text):
    if " leads " in text:
        sides = split_in(text, " leads ", 2)
        return (read_number(sides[0]), "leads", read_number(sides[1]))
    sides = split_in(text, " rare ", 2)
    return (read_number(sides[0]), "rare", read_numbers(sides[1]))


def show_parting(paper):
    rows = joined("; ", [show_parting_row(row) for row in paper[0]])
    leads = joined(", ", [lead[0] + " " + str(lead[1]) for lead in paper[1]])
    return " | ".join(["parting", rows, leads])


def show_parting_row(row):
    return show_numbers(row[:2]) + ": " + show_numbers(row[2]) + " / " + show_numbers(row[3])


def read_parting(text):
    pieces = pieces_of(text, "parting", 2)
    rows = [read_parting_row(part) for part in taken_apart("; ", pieces[0])]
    return (rows, [read_lead(part) for part in taken_apart(", ", pieces[1])])


def read_parting_row(text):
    sides = split_in(text, ": ", 2)
    head = split_in(sides[0], " ", 2)
    tail = split_in(sides[1], " / ", 2)
    return (read_number(head[0]), read_number(head[1]), read_numbers(tail[0]), read_numbers(tail[1]))


def read_lead(text):
    sides = split_in(text, " ", 2)
    if sides[0] not in ("by", "in"):
        raise NoText("a lead is by a row or in a basket")
    return (sides[0], read_number(sides[1]))
