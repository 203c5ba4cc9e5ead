"""A slow model of papers, of cells that are clear of each other and of cells that shoot, from the document alone."""

from tests.support import World


def model_fields(parts, cells, turns):
    """The sorted cells behind each turn, from 0 on."""
    world = World("endless", 0, {(x, y): sign for x, y, sign in cells})
    told = [world.cells()]
    for _ in range(turns):
        world = world.next(parts)
        told.append(world.cells())
    return told


def model_fits(sort, turns, dx, dy):
    return {
        "around": True,
        "halves": (turns + dx + dy) % 2 == 0,
        "blocks": (turns + dx) % 2 == 0 and (turns + dy) % 2 == 0,
    }[sort]


def moved(cells, dx, dy):
    return sorted((x + dx, y + dy, sign) for x, y, sign in cells)


def model_paper(parts, cells, most):
    """The paper of cells, None where there is none."""
    if not cells:
        return None
    fields = model_fields(parts, cells, most)
    for turns in range(1, most + 1):
        # One shift alone brings the first cell to the first one.
        later = fields[turns]
        if not later:
            return None
        dx, dy = later[0][0] - cells[0][0], later[0][1] - cells[0][1]
        if later == moved(cells, dx, dy) and model_fits(parts[0], turns, dx, dy):
            if (dx, dy) != (0, 0):
                return "moving", turns, dx, dy
            still = all(field == fields[0] for field in fields[:turns + 1])
            return "still" if still else "turning", turns, 0, 0
    return None


def model_clear(parts, one, other, most):
    papers = [model_paper(parts, cells, min(most, 40)) for cells in (one, other)]
    if None in papers:
        return None
    both = next(m for m in range(1, 10 ** 4) if m % papers[0][1] == 0 and m % papers[1][1] == 0)
    if both > most:
        return None
    fields = [model_fields(parts, cells, both) for cells in (one, other)]
    for at, axis in ((0, "x"), (1, "y")):
        for first in (True, False):
            ahead, behind = (0, 1) if first else (1, 0)
            beyond = all(
                cell[at] - rear[at] >= 3
                for turn in range(both) for cell in fields[ahead][turn] for rear in fields[behind][turn]
            )
            far = [papers[k][2 + at] * (both // papers[k][1]) for k in (ahead, behind)]
            if beyond and far[0] >= far[1]:
                return axis, first
    return None


def model_gun(parts, cells, most):
    fields = model_fields(parts, cells, most)
    for p in range(1, most + 1):
        if not model_fits(parts[0], p, 0, 0) or not set(cells) <= set(fields[p]):
            continue
        shot = [cell for cell in fields[p] if cell not in cells]
        wide = [max(cell[k] for cell in shot) - min(cell[k] for cell in shot) for k in (0, 1)] if shot else [99]
        if max(wide) > 60:
            continue
        paper = model_paper(parts, shot, p)
        if paper is None or paper[0] != "moving" or p % paper[1]:
            continue
        _, q, dx, dy = paper
        at, far = (0, dx) if abs(dx) >= abs(dy) else (1, dy)
        way = 1 if far > 0 else -1
        later = model_fields(parts, shot, p)
        if any(way * (one[at] - other[at]) < 3 for t in range(p) for one in later[t] for other in fields[t]):
            continue
        broad = [max(cell[at] for cell in later[t]) - min(cell[at] for cell in later[t]) + 1 for t in range(q)]
        if all(abs(far) * (p // q) >= long + 2 for long in broad):
            return "shooting", p, shot, q, dx, dy
    return None
