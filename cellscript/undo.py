"""Undoing: whether turns by a rule lead back, and the field that was."""

from cellscript.errors import Early, Merging, NoWay, TooMany
from cellscript.kinds import is_text_of, refuse_wrong, texts_of
from cellscript.plain import area_turned, refuse_run, refuse_wrong_run
from cellscript.rules import Rule

MOST_SIGNS = 4


def merging(rule):
    """The least paper by which a rule can't be undone, None where it can."""
    refuse_wrong(isinstance(rule, Rule))
    _refuse_wayless(rule)
    if rule.kind() == "blocks":
        fours = texts_of(rule.signs(), 4)
        return _first_alike(fours, [rule.block(four) for four in fours])
    signs = list(rule.signs())
    for around in texts_of(rule.signs(), len(rule.near())):
        pair = _first_alike(signs, [rule.becomes(own, around) for own in signs])
        if pair is not None:
            return around, *pair
    return None


def merging_holds(rule, paper):
    """Whether a rule can't be undone by a paper, whatever that is."""
    _refuse_wayless(rule)
    if not isinstance(paper, tuple):
        return False
    if rule.kind() == "blocks":
        return len(paper) == 2 and _blocks_merge(rule, paper)
    return len(paper) == 3 and _halves_merge(rule, paper)


def _blocks_merge(rule, paper):
    one, other = paper
    if not is_text_of(one, rule.signs(), 4) or not is_text_of(other, rule.signs(), 4):
        return False
    return one < other and rule.block(one) == rule.block(other)


def _halves_merge(rule, paper):
    around, one, other = paper
    if not is_text_of(around, rule.signs(), len(rule.near())):
        return False
    if not is_text_of(one, rule.signs(), 1) or not is_text_of(other, rule.signs(), 1):
        return False
    return one < other and rule.becomes(one, around) == rule.becomes(other, around)


def undone(rule, field, turns):
    """The field, so many turns elder, that becomes this one."""
    refuse_wrong_run(rule, field, turns)
    paper = merging(rule)
    if paper is not None:
        raise Merging(paper)
    refuse_run(rule, field, turns)
    if field.turn() < turns:
        raise Early(field.turn())
    learned = _ways_back(rule)
    for _ in range(turns):
        # A field is undone as it was turned: by the turn ahead of its own.
        turn = field.turn() - 1
        left, top, rows = area_turned(rule, field, turn, learned)
        field = field.remade(turn, left, top, rows)
    return field


def _refuse_wayless(rule):
    if rule.many() > MOST_SIGNS:
        raise TooMany(MOST_SIGNS)
    if rule.kind() == "around":
        raise NoWay()


def _first_alike(texts, behind):
    """The first two of texts, as a tuple, that are alike behind a turn, None where there are none."""
    for at, one in enumerate(behind):
        if one in behind[at + 1:]:
            return texts[at], texts[behind.index(one, at + 1)]
    return None


def _ways_back(rule):
    """What each cell with its near ones, or each block, was ahead of a turn, as area_turned looks it up."""
    if rule.kind() == "blocks":
        return {rule.block(four): four for four in texts_of(rule.signs(), 4)}
    # The near cells stand still in the turn in which a cell turns.
    return {
        (rule.becomes(own, around), *around): own
        for around in texts_of(rule.signs(), len(rule.near()))
        for own in rule.signs()
    }
