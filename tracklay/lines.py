"""The lines that a desk answers."""

from tracklay.errors import BadBits, BadName, BadRow, BadSize, Known, NoBench, NoDeed, NoPin, NoRoom, NoSlot, NoThing
from tracklay.errors import NotLaid, NotPegged, NothingLeft, Pegged, Read, Ring, Taken, TooBig
from tracklay.nets import thing_text
from tracklay.rows import deed_of, number_of_word

NO_LINE = "no line"
NONE = "none"


def answer(desk, line):
    """The answer to a line, be it a refusal of what isn't there."""
    try:
        return answer_there(desk, line.split(" "))
    except NoBench:
        return "no NoBench"
    except NoThing:
        return "no NoThing"
    except NoPin:
        return "no NoPin"
    except NoSlot:
        return "no NoSlot"


def answer_there(desk, words):
    """The answer to a line's words, be it a refusal of what doesn't do."""
    try:
        return told(desk, words)
    except BadName:
        return "no BadName"
    except Known:
        return "no Known"
    except BadSize:
        return "no BadSize"
    except NothingLeft:
        return "no NothingLeft"
    except Taken:
        return "no Taken"
    except TooBig:
        return "no TooBig"
    except BadBits:
        return "no BadBits"
    except Ring:
        return "no Ring"
    except Read:
        return "no Read"
    except Pegged:
        return "no Pegged"
    except NotPegged:
        return "no NotPegged"
    except NoRoom:
        return "no NoRoom"
    except NotLaid:
        return "no NotLaid"
    except BadRow:
        return "no BadRow"


def told(desk, words):
    """What is told where nothing is refused."""
    word = words[0]
    if "" in words:
        return NO_LINE
    if word == "names" and len(words) == 1:
        return text_or_none(" ".join(desk.names()))
    if word == "open" and len(words) == 4:
        return say_open(desk, words[1], number_of_word(words[2]), number_of_word(words[3]))
    if word == "copy" and len(words) == 3:
        desk.copy_one(words[1], words[2])
        return "copied"
    if word == "in" and len(words) > 2:
        return say_deed(desk, words[1], " ".join(words[2:]))
    if word in SHORT_LINES and len(words) == 2:
        action = SHORT_LINES[word]
        return action(desk, words[1])
    return NO_LINE


def text_or_none(text):
    """A text, or the word for a text of nothing."""
    return text or NONE


def say_open(desk, name, slots, tracks):
    """A bench comes; numbers that aren't written as they should be are None."""
    if slots is None or tracks is None:
        return NO_LINE
    desk.open_one(name, slots, tracks)
    return "opened"


def say_deed(desk, name, row):
    """A deed is done in a bench."""
    try:
        deed = deed_of(row)
    except NoDeed:
        return NO_LINE
    outputs = desk.deed(name, deed)
    return "done" if outputs is None else text_or_none(outputs)


def say_close(desk, name):
    """A bench goes."""
    desk.close(name)
    return "closed"


def say_back(desk, name):
    """A bench's last deed is taken back."""
    desk.back(name)
    return "back"


def say_again(desk, name):
    """What was taken back last in a bench is done again."""
    desk.again(name)
    return "again"


def say_things(desk, name):
    """The things of a bench's netlist."""
    return text_or_none("; ".join([thing_text(thing) for thing in desk.view(name).netlist()]))


def say_least(desk, name):
    """The least number of tracks for a bench's netlist."""
    least = desk.view(name).least()
    return NONE if least is None else str(least)


def say_held(desk, name):
    """The bits that a bench's laid registers hold."""
    bench = desk.view(name)
    return NONE if bench.laid() is None else text_or_none(bench.held())


def say_delay(desk, name):
    """The delay of a bench's laying."""
    bench = desk.view(name)
    return NONE if bench.laid() is None else str(bench.delay()[0])


def say_image(desk, name):
    """The tiles of a bench's laying."""
    bench = desk.view(name)
    return NONE if bench.laid() is None else " ".join(bench.image())


# Lines of two words, the second one a bench's name.
SHORT_LINES = {
    "close": say_close,
    "back": say_back,
    "again": say_again,
    "things": say_things,
    "held": say_held,
    "least": say_least,
    "delay": say_delay,
    "image": say_image,
}
