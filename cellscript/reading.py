"""What a cell reads in a turn, and which cells read it."""

from cellscript.plain import BESIDE


def readers(rule, field, places, turn):
    """The sorted list of all places whose cells read one of places in a turn."""
    if rule.kind() == "blocks":
        return sorted({reader for place in places for reader in _block_or_alone(field, place, turn)})
    sides = [BESIDE[side] for side in rule.near()]
    beside = {(x - dx, y - dy): True for x, y in places for dx, dy in sides}
    homes = [home_of(field, x, y) for x, y in beside if _turns(rule, x, y, turn)]
    return sorted({place for place in [*places, *homes] if place is not None})


def sign_behind(rule, field, place, turn, learned):
    """The sign of the cell at a place behind a turn; what was asked of the rule is kept in learned, a dict."""
    x, y = place
    if rule.kind() == "blocks":
        return _sign_of_block(rule, field, place, turn, learned)
    own = field.there(x, y)
    if not _turns(rule, x, y, turn):
        return own
    sides = [BESIDE[side] for side in rule.near()]
    around = "".join([field.there(x + dx, y + dy) for dx, dy in sides])
    if (own, around) not in learned:
        learned[(own, around)] = rule.becomes(own, around)
    return learned[(own, around)]


def home_of(field, x, y):
    """The place where a field has this cell: on a torus from 0 on, None where it lies outside of a box."""
    if field.kind() == "torus":
        return x % field.wide(), y % field.high()
    if field.kind() == "box" and not (0 <= x < field.wide() and 0 <= y < field.high()):
        return None
    return x, y


def _turns(rule, x, y, turn):
    return rule.kind() == "around" or (x + y + turn) % 2 == 0


def _block_of(field, x, y, turn):
    """The places of the block of a cell, None for what lies outside of a box."""
    left, top = x - (x + turn) % 2, y - (y + turn) % 2
    return [home_of(field, left + right, top + down) for down in range(2) for right in range(2)]


def _block_or_alone(field, place, turn):
    """The places of the cells that a cell of a block reads: it alone where the block doesn't turn."""
    block = _block_of(field, place[0], place[1], turn)
    return [place] if None in block else block


def _sign_of_block(rule, field, place, turn, learned):
    block = _block_or_alone(field, place, turn)
    if block == [place]:
        return field.there(place[0], place[1])
    four = "".join([field.there(x, y) for x, y in block])
    if four not in learned:
        learned[four] = rule.block(four)
    return learned[four][block.index(place)]
