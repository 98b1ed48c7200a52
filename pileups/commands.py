"""The commands of a desk: how they are read, and what they answer."""

from pileups.errors import InvalidCommand, InvalidText, NoEntry, NoRun
from pileups.likeness import alike
from pileups.moments import come
from pileups.plans import Plan, read_plan
from pileups.stocks import Stock, greatest, least, level, read_stock
from pileups.tables import Table
from pileups.words import split_words, written

DONE = "ok"
NONE = "none"
ENDLESS = "endless"
ALIKE = "alike"

# The kinds of the words of each command: what has a name, or just a word.
FORMS = {
    "drop": ("entry",), "begin": ("plan",), "undo": (), "redo": (), "names": (), "show": ("entry",), "counts": (),
    "come": (), "level": ("stock",), "greatest": ("plan", "stock"), "least": ("plan", "stock"),
    "alike": ("plan", "plan"), "lead": ("plan", "word", "word"),
}
NEED_RUN = ("do", "counts", "come", "level")


def put_entry(desk, words):
    """Put a plan or a stock under a name."""
    desk.put(words[0], words[1])
    return DONE


def drop_entry(desk, words):
    """Take a plan or a stock away."""
    desk.drop(words[0])
    return DONE


def begin_run(desk, words):
    """Begin the run of a plan."""
    desk.begin(words[0])
    return DONE


def do_events(desk, words):
    """Let events come."""
    desk.do(words)
    return DONE


def undo_change(desk, words):
    """Take a change back."""
    desk.undo()
    return DONE


def redo_change(desk, words):
    """Carry a change out again."""
    desk.redo()
    return DONE


def listed(names):
    """Return names, separated by spaces, or that there are none."""
    return " ".join(names) if names else NONE


def tell_names(desk, words):
    """Tell the names of the plans and stocks."""
    return listed(desk.names())


def show_entry(desk, words):
    """Tell the text of a plan or a stock."""
    return str(desk[words[0]])


def counted(events, counts):
    """Return counts in the order of the events."""
    return ", ".join([f"{event} {written(counts[event])}" for event in events])


def tell_counts(desk, words):
    """Tell the counts of the run."""
    return counted(desk.plan().events(), desk.counts())


def tell_coming(desk, words):
    """Tell the events that can come next."""
    return listed(come(desk.plan(), desk.counts()))


def tell_level(desk, words):
    """Tell the level of a stock at the counts of the run."""
    return written(level(desk.plan(), desk[words[0]], desk.counts()))


def told_extreme(found):
    """Return a greatest or least level, or that there is none, with the events of the pump."""
    extreme, shown = found
    return " ".join([ENDLESS, *shown]) if extreme is None else written(extreme)


def tell_greatest(desk, words):
    """Tell the greatest level of a stock."""
    return told_extreme(greatest(desk[words[0]], desk[words[1]]))


def tell_least(desk, words):
    """Tell the least level of a stock."""
    return told_extreme(least(desk[words[0]], desk[words[1]]))


def tell_alike(desk, words):
    """Tell whether two plans have the same moments, or the counts of a moment of one alone."""
    one = desk[words[0]]
    found = alike(one, desk[words[1]])
    return ALIKE if found is None else counted(one.events(), found[0])


def tell_lead(desk, words):
    """Tell the greatest lead of an event over another one."""
    lead = Table(desk[words[0]]).lead(words[1], words[2])
    return ENDLESS if lead is None else written(lead)


ACTIONS = {
    "plan": put_entry, "stock": put_entry, "drop": drop_entry, "begin": begin_run, "do": do_events,
    "undo": undo_change, "redo": redo_change, "names": tell_names, "show": show_entry, "counts": tell_counts,
    "come": tell_coming, "level": tell_level, "greatest": tell_greatest, "least": tell_least, "alike": tell_alike,
    "lead": tell_lead,
}


def read_entry(line, words):
    """Return the words of a command that puts a plan or a stock: the command, the name, and what the text tells."""
    if len(words) < 3:
        raise InvalidCommand(line)
    text = " ".join(words[2:])
    try:
        entry = read_plan(text) if words[0] == "plan" else read_stock(text)
    except InvalidText:
        raise InvalidCommand(line) from None
    return [words[0], words[1], entry]


def read_command(line):
    """Return the words of a command."""
    words = split_words(line)
    if words is None:
        raise InvalidCommand(line)
    if words[0] in ("plan", "stock"):
        return read_entry(line, words)
    if words[0] == "do" and len(words) > 1:
        return words
    if words[0] not in FORMS or len(words) != len(FORMS[words[0]]) + 1:
        raise InvalidCommand(line)
    return words


def is_kind(desk, name, kind):
    """Return True if a desk holds what is meant under a name."""
    if name not in desk:
        return False
    if kind == "plan":
        return isinstance(desk[name], Plan)
    return kind == "entry" or isinstance(desk[name], Stock)


def answer(desk, words):
    """Carry out a command on a desk and return the answer."""
    command, *rest = words
    kinds = FORMS.get(command, ())
    for name, kind in zip(rest, kinds):
        if kind != "word" and not is_kind(desk, name, kind):
            raise NoEntry(name)
    if command in NEED_RUN and desk.plan() is None:
        raise NoRun()
    action = ACTIONS[command]
    return action(desk, rest)
