"""Sessions: a network edited by commands, which can be taken back."""

from toldpast.commands import command_of
from toldpast.edits import edited
from toldpast.errors import InvalidCommand, InvalidPart, NothingToUndo
from toldpast.nets import require_net
from toldpast.questions import told
from toldpast.validation import is_list


class Session:
    """A network that is edited; its changes can be taken back and performed again."""

    def __init__(self, net):
        require_net(net)
        self._begin = net
        self._now = net
        # Each item holds the lines of the changes of one call, with the network before them, or after them.
        self._in_effect = []
        self._taken_back = []
        self._busy = False

    def net(self):
        """Return the network as it is now."""
        return self._now

    def first(self):
        """Return the network that the session began with."""
        return self._begin

    def done(self):
        """Return the lines of all changes that are in effect, the oldest first."""
        return [line for lines, _ in self._in_effect for line in lines]

    def __len__(self):
        return len(self.done())

    @property
    def busy(self):
        """True as long as say_all is performing its commands."""
        return self._busy

    def say(self, line):
        """Perform a command and return its answer."""
        word, _ = _required(line)
        if word == "undo":
            self._undo()
            return []
        if word == "redo":
            self._redo()
            return []
        return self._performed([line])[0]

    def say_all(self, lines):
        """Perform the commands of a list as one change, or none of them, and return the list of their answers."""
        if not is_list(lines):
            raise InvalidPart(lines)
        for item in lines:
            if item in ("undo", "redo"):
                raise InvalidCommand(item)
        self._busy = True
        try:
            return self._performed(lines)
        finally:
            self._busy = False

    def _performed(self, lines):
        """Perform commands one after the other; the session changes only when none of them has been refused."""
        net = self._now
        done = []
        answers = []
        for line in lines:
            word, values = _required(line)
            changed = edited(net, word, values)
            if changed is not None:
                net = changed
                done.append(line)
                answers.append([])
            elif word == "changes":
                answers.append(self.done() + done)
            else:
                answers.append(told(net, self._begin, word, values))
        if done:
            self._in_effect.append((done, self._now))
            self._taken_back = []
            self._now = net
        return answers

    def _undo(self):
        """Take back the latest changes."""
        if not self._in_effect:
            raise NothingToUndo()
        lines, before = self._in_effect.pop()
        self._taken_back.append((lines, self._now))
        self._now = before

    def _redo(self):
        """Perform the changes again that were taken back last."""
        if not self._taken_back:
            raise NothingToUndo()
        lines, after = self._taken_back.pop()
        self._in_effect.append((lines, self._now))
        self._now = after


def _required(line):
    """Return the first word of a command and what the others tell; raise InvalidCommand if a value is no command."""
    command = command_of(line)
    if command is None:
        raise InvalidCommand(line)
    return command
