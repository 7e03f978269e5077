"""Backward: from what a chain of fills must end with to the texts that it must begin with."""

from ownfill.chains import read_fills
from ownfill.machines import explored
from ownfill.templates import Template, is_blank
from ownfill.turns import turned, undone
from ownfill.values import pulled


class Pulls:
    """A machine pulled through chains of fills; equal machines have one number, so that none is pulled twice."""

    def __init__(self, machine):
        self.machines = []
        self.numbers = {}
        self.leads = {}
        self.keep(machine)

    def keep(self, machine):
        """The number of a machine."""
        key = (tuple([tuple(row) for row in machine.rows()]), tuple(machine.answers()))
        if key not in self.numbers:
            self.numbers[key] = len(self.machines)
            self.machines.append(machine)
        return self.numbers[key]

    def pulled_number(self, number, fill):
        """The number of the machine with a number, pulled through a template that is given by its text."""
        key = (number, fill)
        if key not in self.leads:
            machine = self.machines[number]
            self.leads[key] = self.keep(pulled(machine, Template(machine.letters, fill)))
        return self.leads[key]

    def number_before(self, fills):
        """The number of the machine that tells before a chain of fills what the first machine tells behind it."""
        number = 0
        for fill in reversed(fills):
            number = self.pulled_number(number, fill)
        return number


def first_filling(template, size, text):
    """What must stand in the first blank of a template, where texts of this size are filled in, to give a text."""
    place = 0
    for item in template.row():
        if is_blank(item):
            return turned(template.letters, undone(template.letters, item), text[place:place + size])
        place += 1
    return ""


def source_of(template, text):
    """The one text with which a template with blanks gives a text, or None."""
    size, rest = divmod(len(text) - template.size, template.blanks)
    if size < 0 or rest > 0:
        return None
    source = first_filling(template, size, text)
    return source if template.fill(source) == text else None


def chain_sources(letters, fills, text):
    """The list of the texts of which a chain of fills makes a text: one or none; None if it makes it of all texts."""
    source = text
    for template in reversed(read_fills(letters, fills)):
        if template.blanks == 0:
            return None if template.fill("") == source else []
        source = source_of(template, source)
        if source is None:
            return []
    return [source]


def texts_machine(letters, texts):
    """The machine that answers True for some texts alone."""
    wanted = {text: True for text in texts}
    beginnings = {text[:size]: True for text in wanted for size in range(len(text) + 1)}

    def step(beginning, place):
        longer = None if beginning is None else beginning + letters[place]
        return longer if longer in beginnings else None

    return explored(letters, "", step, lambda beginning: beginning in wanted)
