"""Chains: templates that are filled one after the other, as one template, or as long as they are."""

from ownfill.errors import TooLong
from ownfill.templates import Template, is_blank
from ownfill.turns import after, check_text, turned

MOST_PARTS = 400


def read_fills(letters, fills):
    """The list of the templates with these texts."""
    known = {fill: Template(letters, fill) for fill in fills}
    return [known[fill] for fill in fills]


def fills_turns(letters, fills):
    """The list of the turns of all blanks in some templates, given by their texts."""
    return [item for template in read_fills(letters, fills) for item in template.row() if is_blank(item)]


def fills_size(letters, fills):
    """The numbers of blanks and of fixed letters of the one template that does the same as the chain."""
    blanks, size = 1, 0
    for template in read_fills(letters, fills):
        blanks, size = template.blanks * blanks, template.length(size)
    return (blanks, size)


def lasting(templates):
    """The templates from the last one without blanks on: nothing that stands before it has an effect.

    What each of the others gives is at least as long as what it gets, so a short end has no long text before it.
    """
    start = 0
    for at, template in enumerate(templates):
        if template.blanks == 0:
            start = at
    return templates[start:]


def fills_template(letters, fills, *, limit=MOST_PARTS):
    """The one template that does the same as the chain."""
    blanks, size = fills_size(letters, fills)
    if blanks + size > limit:
        raise TooLong(limit)
    whole = Template.blank(letters)
    for template in lasting(read_fills(letters, fills)):
        whole = template.put(whole)
    return whole


def fills_text(letters, fills, text, limit):
    """What the last template of the chain gives; raises TooLong if this text is longer than the limit."""
    blanks, size = fills_size(letters, fills)
    if blanks * len(text) + size > limit:
        raise TooLong(limit)
    filled = text
    for template in lasting(read_fills(letters, fills)):
        filled = template.fill(filled)
    return filled


def item_at(template, size, place):
    """The item that gives the letter at a place, with a text of this size in the blanks, and the place in the item."""
    left = place
    for item in template.row():
        width = size if is_blank(item) else 1
        if left < width:
            return item, left
        left = left - width
    return None, left


def fills_letter(letters, fills, text, place):
    """The letter at a place of what the last template of the chain gives."""
    check_text(letters, text)
    templates = read_fills(letters, fills)
    sizes = [len(text)]
    for template in templates:
        sizes.append(template.length(sizes[-1]))
    at = place
    turn = letters
    for index in reversed(range(len(templates))):
        item, at = item_at(templates[index], sizes[index], at)
        if not is_blank(item):
            return turned(letters, turn, item)
        turn = after(letters, item, turn)
    return turned(letters, turn, text[at])
