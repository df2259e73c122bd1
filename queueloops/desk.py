"""Desks: things under names, the deeds that make them, and the journal of these deeds.

A thing is told as (kind, device, worth): the worth is the device itself, the rows of a rule for
it, or a run. Each deed makes one name another thing, so what it does is told as (name, thing),
the thing being None if it is no longer there. A run that is kept is never led on: a copy of it is,
which then stands in its place. So whatever was there can be put back as it was.
"""

from queueloops.devices import Device, check_rule, least_rule
from queueloops.errors import (BadDeed, BadDesk, BadName, BadSlots, Held, LoopError, NoNote, NoThing, NothingToRedo,
                               NothingToUndo, WrongKind)
from queueloops.runs import Run
from queueloops.tables import serves
from queueloops.values import is_name, read_number

MOST_WHOS = 100


def thing_under(things, name):
    """The thing of this name."""
    if not isinstance(name, str) or name not in things:
        raise NoThing(name)
    return things[name]


def thing_as(things, kind, name):
    """The thing of this name, which is of this kind."""
    thing = thing_under(things, name)
    if thing[0] != kind:
        raise WrongKind(name)
    return thing


def check_new(things, name):
    """Raises BadName, or Held, for what cannot be the name of a new thing."""
    if not is_name(name):
        raise BadName(name)
    if name in things:
        raise Held(name)


def by_device(things, deed):
    """What ("device", name, text) does."""
    _, name, text = deed
    check_new(things, name)
    device = Device(text)
    return name, ("device", device, device)


def by_rule(things, deed):
    """What ("rule", name, device, rows) does."""
    _, name, owner, rows = deed
    check_new(things, name)
    _, device, _ = thing_as(things, "device", owner)
    check_rule(device, rows)
    return name, ("rule", device, rows)


def by_least(things, deed):
    """What ("least", name, device, size) does."""
    _, name, owner, size = deed
    check_new(things, name)
    _, device, _ = thing_as(things, "device", owner)
    return name, ("rule", device, least_rule(device, size))


def by_run(things, deed):
    """What ("run", name, rule, service) does."""
    _, name, owner, service = deed
    check_new(things, name)
    _, device, rows = thing_as(things, "rule", owner)
    return name, ("run", device, Run(device, rows, service))


def by_slots(things, deed):
    """What ("slots", name, whos) does."""
    _, name, whos = deed
    _, device, run = thing_as(things, "run", name)
    if not isinstance(whos, tuple) or not 1 <= len(whos) <= MOST_WHOS:
        raise BadSlots(whos)
    longer = run.copy()
    for who in whos:
        longer.go_on(who)
    return name, ("run", device, longer)


def by_copy(things, deed):
    """What ("copy", name, other) does; both may keep one run, because neither is led on itself."""
    _, name, other = deed
    thing = thing_under(things, name)
    check_new(things, other)
    return other, thing


def by_drop(things, deed):
    """What ("drop", name) does."""
    _, name = deed
    thing_under(things, name)
    return name, None


PARTS = {"device": 2, "rule": 3, "least": 3, "run": 3, "slots": 2, "copy": 2, "drop": 1}
DOINGS = {"device": by_device, "rule": by_rule, "least": by_least, "run": by_run, "slots": by_slots, "copy": by_copy,
          "drop": by_drop}


def change_by(things, deed):
    """What a deed does: (name, thing)."""
    if not isinstance(deed, tuple) or not deed or not isinstance(deed[0], str) or deed[0] not in PARTS:
        raise BadDeed(deed)
    if len(deed) != PARTS[deed[0]] + 1:
        raise BadDeed(deed)
    doing = DOINGS[deed[0]]
    return doing(things, deed)


class Desk:
    """Things under names, and the deeds that made them; the journal has (deed, name, thing ahead, thing behind)."""

    def __init__(self):
        self.names = ()
        self.things = {}
        self.journal = []
        self.standing = 0
        self.noted = {}

    def __len__(self):
        return len(self.names)

    def __contains__(self, value):
        return isinstance(value, str) and value in self.things

    def lead(self, deed):
        """Does a deed, which then stands; forgets those that were undone, and the notes for these."""
        name, thing = change_by(self.things, deed)
        many = self.standing
        del self.journal[many:]
        self.journal.append((deed, name, self.things.get(name), thing))
        self.noted = {word: number for word, number in self.noted.items() if number <= many}
        self.stand_at(many + 1)

    def put(self, name, thing):
        """Makes a name this thing; None if it is no longer there."""
        if thing is None:
            del self.things[name]
            self.names = tuple([other for other in self.names if other != name])
        else:
            if name not in self.things:
                self.names = tuple(sorted(self.names + (name,)))
            self.things[name] = thing

    def stand_at(self, many):
        """Undoes deeds, or does them again, until so many stand."""
        while self.standing > many:
            self.standing -= 1
            _, name, ahead, _ = self.journal[self.standing]
            self.put(name, ahead)
        while self.standing < many:
            _, name, _, behind = self.journal[self.standing]
            self.put(name, behind)
            self.standing += 1

    def thing_of(self, name):
        """The Device, the rule, or a copy of the Run of this name."""
        kind, _, worth = thing_under(self.things, name)
        return worth.copy() if kind == "run" else worth

    def thing_kind(self, name):
        """Of which kind the thing of this name is."""
        return thing_under(self.things, name)[0]

    def device_of(self, name):
        """The Device to which the thing of this name belongs."""
        return thing_under(self.things, name)[1]

    def does_serve(self, rule, service):
        """Whether the rule of this name serves."""
        _, device, rows = thing_as(self.things, "rule", rule)
        return serves(device, rows, service)

    def undo(self):
        """Undoes the last deed that stands."""
        if self.standing == 0:
            raise NothingToUndo(0)
        self.stand_at(self.standing - 1)

    def redo(self):
        """Does the deed again that was undone last."""
        if self.standing == len(self.journal):
            raise NothingToRedo(self.standing)
        self.stand_at(self.standing + 1)

    def note(self, word):
        """Notes under the word how many deeds stand now."""
        if not is_name(word):
            raise BadName(word)
        self.noted[word] = self.standing

    def notes(self):
        """(word, number) of all notes, ascending."""
        return tuple(sorted(self.noted.items()))

    def back(self, word):
        """Undoes deeds, or does them again, until just as many stand as the word notes."""
        if not isinstance(word, str) or word not in self.noted:
            raise NoNote(word)
        self.stand_at(self.noted[word])

    def all_deeds(self):
        """The pair of the deeds that stand, and of those that were undone."""
        deeds = tuple([entry[0] for entry in self.journal])
        return deeds[:self.standing], deeds[self.standing:]


def who_word(who):
    """How a part of a script stands in a text."""
    if isinstance(who, tuple):
        return "-" + ",".join([str(delay) for delay in who])
    return str(who)


def deed_text(deed):
    """The lines of a deed."""
    word = deed[0]
    words = list(deed)
    if word == "device":
        many = deed[2].count("\n") + 1
        return f"device {deed[1]} {many}\n{deed[2]}"
    if word == "rule":
        words = words[:3] + ["".join([str(lane) for lane in row]) for row in deed[3]]
    elif word == "least":
        words = words[:3] + [str(deed[3])]
    elif word == "run":
        words = words[:3] + [deed[3][0], str(deed[3][1])]
    elif word == "slots":
        words = words[:2] + [who_word(who) for who in deed[2]]
    return " ".join(words)


def desk_text(desk):
    """The text of a desk."""
    standing, undone = desk.all_deeds()
    lines = [f"stand {len(standing)}"]
    lines.extend([f"note {word} {number}" for word, number in desk.notes()])
    lines.extend([deed_text(deed) for deed in standing + undone])
    return "\n".join(lines)


def read_stand(line):
    """The number of the line stand; None if it has not its form."""
    words = line.split(" ")
    return read_number(words[1]) if len(words) == 2 and words[0] == "stand" else None


def read_note(line):
    """(word, number) of a line of a note; None if it has not its form."""
    words = line.split(" ")
    if len(words) != 3 or words[0] != "note" or not is_name(words[1]):
        return None
    number = read_number(words[2])
    return None if number is None else (words[1], number)


def read_notes(lines):
    """(word, number) for each of the lines, up to the first that is no note or whose word does not ascend."""
    notes = []
    for line in lines:
        note = read_note(line)
        if note is None or notes and note[0] <= notes[-1][0]:
            break
        notes.append(note)
    return notes


def read_who(word):
    """The part of a script that a word tells; with None where it has not its form."""
    if not word.startswith("-"):
        return read_number(word)
    return tuple([read_number(part) for part in word[1:].split(",")]) if word != "-" else ()


def read_deed(words):
    """The deed of one line; a line that has not its form gives what is refused as a deed."""
    word = words[0]
    if word == "rule":
        return tuple(words[:3]) + (tuple([tuple([read_number(lane) for lane in row]) for row in words[3:]]),)
    if word == "least":
        return tuple(words[:3]) + tuple([read_number(size) for size in words[3:]])
    if word == "run":
        return tuple(words[:3]) + (tuple(words[3:4]) + tuple([read_number(most) for most in words[4:]]),)
    if word == "slots":
        return tuple(words[:2]) + (tuple([read_who(who) for who in words[2:]]),)
    return tuple(words)


def lines_behind(lines, at):
    """How many lines of a text stand behind line number at, from 0, which is the first one of a deed."""
    words = lines[at].split(" ")
    if words[0] != "device":
        return 0
    many = read_number(words[2]) if len(words) == 3 and is_name(words[1]) else None
    if many is None or many == 0:
        raise BadDesk(at + 1)
    if at + many >= len(lines):
        raise BadDesk(len(lines) + 1)
    return many


def lead_lines(desk, lines, at):
    """Leads the deeds that stand in the lines from number at, from 0, on."""
    while at < len(lines):
        words = lines[at].split(" ")
        behind = lines_behind(lines, at)
        deed = read_deed(words)
        if behind > 0:
            deed = ("device", words[1], "\n".join(lines[at + 1:at + 1 + behind]))
        try:
            desk.lead(deed)
        except LoopError:
            raise BadDesk(at + 1) from None
        at += 1 + behind


def read_desk(text):
    """The desk with this text."""
    if not isinstance(text, str):
        raise BadDesk(0)
    lines = text.split("\n")
    stand = read_stand(lines[0])
    if stand is None:
        raise BadDesk(1)
    notes = read_notes(lines[1:])
    desk = Desk()
    lead_lines(desk, lines, 1 + len(notes))
    for number, many in enumerate([stand] + [noted for _, noted in notes], start=1):
        if many > desk.standing:
            raise BadDesk(number)
    desk.noted = {word: noted for word, noted in notes}
    desk.stand_at(stand)
    return desk
