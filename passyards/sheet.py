"""Sheets: a text whose first line gives a LINE, and whose other lines are operations and questions for a Yard of it."""

from passyards.counting import reachable_many
from passyards.errors import BadLine, BadText, Blocked, Full, Inside, Known, NoTrain, OtherTrains
from passyards.leading import bar
from passyards.sizes import is_free
from passyards.texts import EMPTY, line_in, number_in, row_in, row_text, standing_in, standing_text
from passyards.yard import Yard

ALONE = ("undo", "show", "moves", "groups", "many", "free")


def train_and_side_in(text):
    """The train and the side of the text; raises BadText."""
    train, _, side = text.partition(" ")
    if side not in ("left", "right"):
        raise BadText(text)
    return [number_in(train), side]


def command_in(line, row):
    """The word of a line of the text and the list of what it tells; raises BadText."""
    if row in ALONE:
        return (row, [])
    word, _, told = row.partition(" ")
    if word in ("enter", "move"):
        return (word, train_and_side_in(told))
    if word == "leave":
        return (word, [number_in(told)])
    if word == "run":
        return (word, [row_in(told)])
    if word == "lead":
        return (word, [standing_in(line, told)])
    raise BadText(row)


def first_line_in(row):
    """The LINE that the first line of the text gives; raises BadText."""
    word, _, told = row.partition(" ")
    if word != "line":
        raise BadText(row)
    return line_in(told)


def read(text):
    """The LINE, and the list of the commands; raises BadLine(number)."""
    rows = text.split("\n")
    line = None
    commands = []
    for number, row in enumerate(rows):
        try:
            if line is None and row:
                line = first_line_in(row)
            elif row:
                commands.append(command_in(line, row))
        except BadText:
            raise BadLine(number) from None
    if line is None:
        raise BadLine(len(rows))
    return (line, commands)


def enter(yard, train, side):
    """The answer to `enter`."""
    yard.enter(train, side=side)
    return "done"


def leave(yard, train):
    """The answer to `leave`."""
    return yard.leave(train)


def move(yard, train, side):
    """The answer to `move`."""
    return str(yard.move(train, side))


def run_row(yard, row):
    """The answer to `run`."""
    yard.run(row)
    return "done"


def undo(yard):
    """The answer to `undo`."""
    return yes_or_no(yard.undo())


def show(yard):
    """The answer to `show`."""
    return standing_text(yard.standing())


def list_moves(yard):
    """The answer to `moves`."""
    return row_text(yard.moves())


def list_groups(yard):
    """The answer to `groups`."""
    found = yard.groups()
    return standing_text(found) if found else EMPTY


def count(yard):
    """The answer to `many`."""
    return str(reachable_many(yard.line(), yard.standing()))


def lead(yard, other):
    """The answer to `lead`."""
    found = bar(yard.line(), yard.standing(), other)
    return "yes" if found is None else f"no {found[0]}"


def free(yard):
    """The answer to `free`."""
    return yes_or_no(is_free(yard.line(), len(yard)))


def yes_or_no(holds):
    """The word for True or False."""
    return "yes" if holds else "no"


ACTIONS = {"enter": enter, "leave": leave, "move": move, "run": run_row, "undo": undo, "show": show,
           "moves": list_moves, "groups": list_groups, "many": count, "lead": lead, "free": free}


def answer(yard, word, told):
    """The answer to one command."""
    action = ACTIONS[word]
    try:
        return action(yard, *told)
    except Known:
        return "error Known"
    except Full:
        return "error Full"
    except NoTrain:
        return "error NoTrain"
    except Inside:
        return "error Inside"
    except Blocked:
        return "error Blocked"
    except OtherTrains:
        return "error OtherTrains"


def answers(text):
    """The list of the answers of a Yard to the lines of the text but the first; raises BadLine(number)."""
    line, commands = read(text)
    yard = Yard(line)
    return [answer(yard, word, told) for word, told in commands]
