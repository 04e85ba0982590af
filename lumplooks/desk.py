"""The desk: a recall that is asked and changed by lines of words."""

from lumplooks.errors import LumpError, Missing, NothingLeft
from lumplooks.lumps import plan
from lumplooks.numbers import number_in
from lumplooks.pages import command_of
from lumplooks.recalls import Recall

DONE = "done"
UNKNOWN = "unknown"
EMPTY = "none"


class Desk:
    """A recall, and all lines that were said with their answers."""

    def __init__(self, *, recall=None):
        self._recall = Recall(limit=Recall.MOST) if recall is None else recall
        self._log = []

    def say(self, line):
        """The answer to a line."""
        answer = answer_to(self._recall, line)
        self._log.append((line, answer))
        return answer

    def __call__(self, line):
        return self.say(line)

    def recall(self):
        """The recall itself."""
        return self._recall

    def log(self):
        """The list of the pairs (line, answer)."""
        return list(self._log)

    def __len__(self):
        return len(self._log)

    def __repr__(self):
        return f"Desk({len(self._log)} lines)"


def answer_to(recall, line):
    """The answer to a line, with the code of an error if one is raised."""
    try:
        return plain_answer(recall, line)
    except (LumpError, Missing, NothingLeft) as e:
        return f"error {e.code}"


def plain_answer(recall, line):
    """The answer to a line; what the line asks for is done."""
    command = command_of(line)
    if command is not None:
        recall.do(command)
        return DONE
    words = line.split(" ")
    if "\n" in line or "" in words:
        return UNKNOWN
    if len(words) == 2:
        return answer_with(recall, words[0], words[1])
    if len(words) > 1 or words[0] not in ANSWERS:
        return UNKNOWN
    action = ANSWERS[words[0]]
    return action(recall)


def answer_with(recall, word, item):
    """The answer to a word with an item behind it."""
    if word == "fate":
        return recall.fate(item)
    at = number_in(item)
    if word != "strike" or at is None:
        return UNKNOWN
    recall.do(("strike", at))
    return DONE


def undone(recall):
    """Undo."""
    recall.undo()
    return DONE


def redone(recall):
    """Redo."""
    recall.redo()
    return DONE


def told_least(recall):
    """The least number of false records."""
    return str(recall.least_now())


def told_looks(recall):
    """The number of looks."""
    return str(recall.looks())


def told_plan(recall):
    """The names of the plan."""
    return " ".join(plan(recall.case())) or EMPTY


def told_letter(recall):
    """The shortest letter to owners."""
    return recall.case().letter_to_owners()


ANSWERS = {
    "undo": undone, "redo": redone, "least": told_least, "looks": told_looks, "plan": told_plan, "write": told_letter,
}
