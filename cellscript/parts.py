"""The parts of deeds and of rows: kinds of things, told, written and read."""

from cellscript.errors import NoText
from cellscript.fields import Field
from cellscript.fieldtexts import read_below, read_field, show_field
from cellscript.kinds import is_from_to, is_sign, is_spot, is_way, is_word
from cellscript.machine import Machine, is_fed, read_fed, read_machine, show_fed, show_machine
from cellscript.patterns import MOST_PAPER
from cellscript.pictures import MOST, is_piece, read_piece, show_piece
from cellscript.plain import MOST_TURNS
from cellscript.rules import Rule
from cellscript.ruletexts import read_rule, show_rule


def is_part(thing, kind):
    """Whether a thing, whatever it is, is a part of a kind.

    A number is a spot, a way, turns, a size of a picture, or the most turns of a paper.
    """
    if kind == "word":
        return is_word(thing)
    if kind == "sign":
        return is_sign(thing)
    if kind == "piece":
        return is_piece(thing)
    if kind == "rule":
        return isinstance(thing, Rule)
    if kind == "field":
        return isinstance(thing, Field)
    if kind == "machine":
        return isinstance(thing, Machine)
    if kind == "fed":
        return is_fed(thing)
    return _is_number(thing, kind)


def _is_number(thing, kind):
    if kind == "spot":
        return is_spot(thing)
    if kind == "way":
        return is_way(thing)
    if kind == "turns":
        return is_from_to(thing, 0, MOST_TURNS)
    return is_from_to(thing, 1, MOST if kind == "size" else MOST_PAPER)


def show_part(part, kind):
    """The text of a part of a kind."""
    if kind == "piece":
        return show_piece(part)
    if kind == "rule":
        return show_rule(part).replace("\n", "/")
    if kind == "field":
        return show_field(part)
    if kind == "machine":
        return show_machine(part)
    return show_fed(part) if kind == "fed" else str(part)


def read_parts(words, kinds):
    """The parts of these kinds that words tell, the last one what is left of them; None where they tell none."""
    many = len(kinds)
    if many == 0 or len(words) < many:
        return [] if len(words) == many else None
    texts = [*words[:many - 1], " ".join(words[many - 1:])]
    parts = [_read_part(text, kind) for text, kind in zip(texts, kinds)]
    if not all([is_part(part, kind) for part, kind in zip(parts, kinds)]):
        return None
    return parts


def _read_part(text, kind):
    """What a text tells, None where it tells nothing of this kind."""
    try:
        return _read_plain(text, kind)
    except NoText:
        return None


def _read_plain(text, kind):
    if kind in ("word", "sign"):
        return text
    if kind == "piece":
        return read_piece(text)
    if kind == "rule":
        # The line feeds of a rule's text are written otherwise in a row.
        return None if "\n" in text else read_rule(text.replace("/", "\n"))
    if kind == "field":
        return read_field(text)
    if kind == "machine":
        return read_machine(text)
    return read_fed(text) if kind == "fed" else read_below(text)
