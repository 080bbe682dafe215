"""What the rows of a document come to, each in each of the situations in which it stands.

A situation is all that decides how a row is laid: how many signs have room on the line behind the column at which it
begins, and behind its indentation, and how many signs are ahead. Where less than none have room, each group is broken,
so all such columns are alike: how far they are out makes a difference only for the numbers of signs and columns, and
these are told for any column and indentation.
"""

from farlayout.facts import indentation_base

NO_ROOM = -1
# Answers beyond so many situations are forgotten between two calls.
MOST_OUTCOMES = 300000


class Outcome:
    """What a row comes to in a situation, if it begins at a column C and has an indentation I.

    It has `signs` + `slopes[0]` * C + `slopes[1]` * I signs, among them `feeds` line feeds. The column behind it is
    counted from its `base` (0 is C, 1 is I): the base + `offset`. Of the lines that end in it, the longest ones end
    at C + `mosts[0]` and I + `mosts[1]`; -1 is for none.
    """

    def __init__(self):
        self.signs = 0
        self.slopes = [0, 0]
        self.feeds = 0
        self.base = 0
        self.offset = 0
        self.mosts = [-1, -1]

    def add_signs(self, many):
        """Adds signs of a text."""
        self.signs += many
        self.offset += many

    def add_feed(self):
        """Adds a line feed and the blanks of the indentation."""
        self.mosts[self.base] = max(self.mosts[self.base], self.offset)
        self.signs += 1
        self.slopes[1] += 1
        self.feeds += 1
        self.base = 1
        self.offset = 0

    def add_part(self, part, base, more):
        """Adds the outcome of a part, the indentation of which is a base + `more`."""
        bases = (self.base, base)
        offsets = (self.offset, more)
        self.signs += part.signs
        self.feeds += part.feeds
        for k in (0, 1):
            self.signs += part.slopes[k] * offsets[k]
            self.slopes[bases[k]] += part.slopes[k]
            if part.mosts[k] >= 0:
                self.mosts[bases[k]] = max(self.mosts[bases[k]], part.mosts[k] + offsets[k])
        self.base = bases[part.base]
        self.offset = offsets[part.base] + part.offset


class Task:
    """A row whose outcome in a situation is being worked out: its parts are added one by one."""

    def __init__(self, facts, situation):
        number, first, second, ahead = situation
        row = facts.rows[number]
        self.situation = situation
        self.number = number
        self.rooms = (first, second)
        self.ahead = ahead
        self.outcome = Outcome()
        self.parts = facts.parts[number]
        self.added = 0
        self.base = indentation_base(row)
        self.more = 0
        if row[0] == "text":
            self.outcome.add_signs(len(row[1]))
        elif row[0] in ("line", "hard"):
            self.outcome.add_feed()
        elif row[0] == "nest":
            self.more = row[1]
        elif row[0] == "group" and fits(facts, number, first, ahead):
            self.outcome.add_signs(facts.flats[number])
            self.parts = []

    def is_done(self):
        """Tells whether all parts are added."""
        return self.added == len(self.parts)

    def wanted(self, facts):
        """Returns the situation of the part that is added next."""
        signs, is_ended = facts.behinds[self.number][self.added]
        if not is_ended:
            signs = signs + self.ahead
        room = self.rooms[self.outcome.base] - self.outcome.offset
        return situation_of(facts, self.parts[self.added], room, self.rooms[self.base] - self.more, signs)

    def add_next(self, part):
        """Adds the outcome of the next part."""
        self.outcome.add_part(part, self.base, self.more)
        self.added += 1


def fits(facts, number, room, ahead):
    """Tells whether a group that stands in no flat group is flat."""
    flat = facts.flats[number]
    return flat is not None and flat + ahead <= room


def situation_of(facts, number, first, second, ahead):
    """Returns the situation of a row that has so much room behind its column and its indentation.

    What makes no difference for the row is left out, so that there are as few situations as possible.
    """
    matters = facts.matters[number]
    if not matters[0] or first < 0:
        first = NO_ROOM
    if not matters[1] or second < 0:
        second = NO_ROOM
    if not facts.has_last[number]:
        return (number, first, second, 0)
    return (number, first, second, min(ahead, max(first, second) + 1))


def outcome_in(facts, situation):
    """Returns the outcome in a situation."""
    outcomes = facts.outcomes
    if situation in outcomes:
        return outcomes[situation]
    # Documents are up to 200 rows deep, so the tasks under way are kept in a list instead of calls.
    tasks = [Task(facts, situation)]
    while tasks:
        task = tasks[-1]
        if task.is_done():
            outcomes[task.situation] = task.outcome
            tasks.pop()
        else:
            wanted = task.wanted(facts)
            if wanted in outcomes:
                task.add_next(outcomes[wanted])
            else:
                tasks.append(Task(facts, wanted))
    return outcomes[situation]


def forget_many(facts):
    """Forgets the outcomes, if there are so many of them that they could fill the memory."""
    if len(facts.outcomes) > MOST_OUTCOMES:
        facts.outcomes.clear()
