"""A desk: plans and stocks under names, the run of one plan, and what can be taken back and carried out again."""

from pileups.commands import answer, read_command
from pileups.errors import InvalidCommands, InvalidEntry, InvalidName, NoEntry, NoRun, NothingToRedo, NothingToUndo
from pileups.errors import TooMany
from pileups.moments import behind
from pileups.plans import Plan
from pileups.stocks import Stock
from pileups.words import is_name

MOST_ENTRIES = 12
MOST_LINES = 40


class Desk:
    """Plans and stocks under names, and the counts of the run of one plan."""

    def __init__(self):
        # A state is a tuple of the entries, the plan that is run and its counts. A change makes another state, and no
        # state ever changes, so that those that were there before can be kept as they are.
        self.state = ({}, None, None)
        self.former = []
        self.undone = []

    def names(self):
        """Return the names of the plans and stocks, in ascending order."""
        return sorted(list(self.state[0]))

    def plan(self):
        """Return the plan that is run, or None."""
        return self.state[1]

    def counts(self):
        """Return the counts of the run, or None."""
        return None if self.state[2] is None else dict(self.state[2])

    def __getitem__(self, name):
        if name not in self:
            raise NoEntry(name)
        return self.state[0][name]

    def __iter__(self):
        raise TypeError("a desk is not iterated over")

    def __len__(self):
        return len(self.state[0])

    def __contains__(self, value):
        return isinstance(value, str) and value in self.state[0]

    def __eq__(self, other):
        return isinstance(other, Desk) and self.state == other.state

    def change(self, state):
        """Take a state that is not equal to the present one as a change that can be taken back."""
        if state != self.state:
            self.former.append(self.state)
            self.undone.clear()
            self.state = state

    def put(self, name, entry):
        """Put a plan or a stock under a name."""
        if not is_name(name):
            raise InvalidName(name)
        if not isinstance(entry, (Plan, Stock)):
            raise InvalidEntry(entry)
        if name not in self and len(self) >= MOST_ENTRIES:
            raise TooMany(MOST_ENTRIES)
        entries, plan, counts = self.state
        self.change(({**entries, name: entry}, plan, counts))

    def drop(self, name):
        """Take a plan or a stock away."""
        if name not in self:
            raise NoEntry(name)
        entries, plan, counts = self.state
        self.change(({other: entries[other] for other in entries if other != name}, plan, counts))

    def begin(self, name):
        """Begin the run of a plan."""
        if name not in self or not isinstance(self[name], Plan):
            raise NoEntry(name)
        plan = self[name]
        self.change((self.state[0], plan, behind(plan, [])))

    def do(self, events):
        """Let the events of a list come, one after another."""
        entries, plan, counts = self.state
        if plan is None:
            raise NoRun()
        self.change((entries, plan, behind(plan, events, begin=counts)))

    def undo(self):
        """Take back the last change that has not been taken back."""
        if not self.former:
            raise NothingToUndo()
        self.undone.append(self.state)
        self.state = self.former.pop()

    def redo(self):
        """Carry out again the last change that was taken back, if none has been made since."""
        if not self.undone:
            raise NothingToRedo()
        self.former.append(self.state)
        self.state = self.undone.pop()

    def copied(self):
        """Return an equal desk of its own, in which there is nothing to be taken back or carried out again."""
        desk = Desk()
        desk.state = self.state
        return desk

    def run(self, line):
        """Carry out a command and return its answer."""
        return answer(self, read_command(line))

    def run_all(self, lines):
        """Carry out the commands of a list and return their answers; if one fails, leave all as it was."""
        if not isinstance(lines, (list, tuple)) or len(lines) > MOST_LINES:
            raise InvalidCommands(lines)
        # The commands are tried on another desk, which is not taken over if one of them fails.
        trial = self.copied()
        trial.former = list(self.former)
        trial.undone = list(self.undone)
        answers = [trial.run(line) for line in lines]
        self.state, self.former, self.undone = trial.state, trial.former, trial.undone
        return answers
