"""A desk that keeps a house, a wish and a log, with trials, undo and redo (promises 151 to 155)."""

from winoften.commands import done
from winoften.errors import InvalidLine, NothingToRedo, NothingToUndo
from winoften.forms import is_list_of

MOST_COMMANDS = 100
NO_STANDING = (None, None, ())


class Desk:
    """A house, a wish for it and a log, which commands change, and which questions ask about."""

    def __init__(self):
        # Commands that have changed the desk, each with the standing behind it, and those that were taken back.
        self._changes = []
        self._taken = []

    def house_now(self):
        """Return the house, or None if there is none."""
        house, _, _ = self._standing()
        return house

    def wish_now(self):
        """Return the wish, or None if there is none."""
        _, wish, _ = self._standing()
        return wish

    def log_now(self):
        """Return the log."""
        _, _, log = self._standing()
        return list(log)

    def run(self, command):
        """Do a command, and return the lines of its answer."""
        return self.run_all([command])[0]

    def run_all(self, commands):
        """Do commands one after the other, or none of them, and return their answers."""
        answers, changes = self._tried(commands)
        if changes:
            self._changes.extend(changes)
            self._taken = []
        return answers

    def trial(self, commands):
        """Return the answers of commands, and leave the desk as it is."""
        answers, _ = self._tried(commands)
        return answers

    def undo(self):
        """Take back the last command that changed the desk, and return it."""
        if not self._changes:
            raise NothingToUndo()
        change = self._changes.pop()
        self._taken.append(change)
        return change[0]

    def redo(self):
        """Do again the command that was taken back last, and return it."""
        if not self._taken:
            raise NothingToRedo()
        change = self._taken.pop()
        self._changes.append(change)
        return change[0]

    def history(self):
        """Return the commands that have changed the desk, without those that were taken back."""
        return [command for command, _ in self._changes]

    def _standing(self):
        return self._changes[-1][1] if self._changes else NO_STANDING

    def _tried(self, commands):
        """Return the answers of commands, and the changes that they bring."""
        if not is_list_of(commands, 0, MOST_COMMANDS):
            raise InvalidLine(commands)
        standing = self._standing()
        answers = []
        changes = []
        for command in commands:
            standing, lines, is_change = done(standing, command)
            answers.append(lines)
            if is_change:
                changes.append((command, standing))
        return answers, changes
