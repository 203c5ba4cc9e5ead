"""A slow model of wires, of machines and of what they mean, from the document alone, and machines by chance."""

GIVES_RIGHT = ("a", "c", "e", "g", "i", "k", "m", "o", "q", "s", "u", "w")
GIVES_DOWN = ("c", "e", "h", "i", "m", "o", "q", "s", "u", "w")
READS = {"in": 0, "one": 0, "not": 1, "flip": 1, "and": 2, "or": 2, "xor": 2, "hold": 2}
GATE_SIGNS = {"and": "lm", "or": "no", "xor": "pq", "hold": "tu", "not": "rs", "one": "rs", "flip": "vw"}
NAMES = ("a", "b", "ab", "in", "out", "not", "zzzzzzzz", "one", "x", "y", "and", "z", "q", "abcdefgh", "r", "hold")


def model_wires(own, west, north):
    """What a cell of this sign becomes, sentence by sentence."""
    right, down = west in GIVES_RIGHT, north in GIVES_DOWN
    if own in ".a":
        return "a" if west in ("a", "k") else "."
    if own in "bc":
        return "c" if right else "b"
    if own in "de":
        return "e" if down else "d"
    if own in "fghi":
        if right and down:
            return "i"
        if right:
            return "g"
        return "h" if down else "f"
    if own in "jk":
        return "k" if right else "j"
    if own in "rs":
        return "r" if right else "s"
    if own in "lm":
        return "m" if right and down else "l"
    if own in "no":
        return "o" if right or down else "n"
    if own in "pq":
        return "q" if right != down else "p"
    if own in "tu":
        if not down:
            return own
        return "u" if right else "t"
    if own in "vw":
        if not right:
            return own
        return "w" if own == "v" else "v"
    return own


def made_by(rows):
    """The rows that make a name."""
    return [row for row in rows if row[0] != "out"]


def model_size(rows):
    """wide and high."""
    gates = [row for row in made_by(rows) if row[0] != "in"]
    return 2 * len(gates) + 2, len(made_by(rows))


def model_bits(rows, fed, last):
    """By names, dicts of bits by the waves from -(wide + high) to the last one; fed are bits by waves, by names of ins."""
    wide, high = model_size(rows)
    bits = {row[1]: {-(wide + high) - 1: 0} for row in made_by(rows)}
    for wave in range(-(wide + high), last + 1):
        for row in made_by(rows):
            word, name = row[0], row[1]
            reads = [bits[other][wave] for other in row[2:]]
            own = bits[name][wave - 1]
            if word == "in":
                bit = fed.get(name, {}).get(wave, 0)
            elif word == "one":
                bit = 1
            elif word == "not":
                bit = 0 if reads[0] else 1
            elif word == "and":
                bit = 1 if reads == [1, 1] else 0
            elif word == "or":
                bit = 0 if reads == [0, 0] else 1
            elif word == "xor":
                bit = 1 if reads in ([0, 1], [1, 0]) else 0
            elif word == "hold":
                bit = reads[0] if reads[1] else own
            else:
                bit = (1 - own) if reads[0] else own
            bits[name][wave] = bit
    return bits


def by_waves(fed):
    """Lists of bits of the waves from 1 on as dicts by waves."""
    return {name: dict(enumerate(bits, 1)) for name, bits in fed.items()}


def model_meaning(rows, fed, waves):
    bits = model_bits(rows, by_waves(fed), max(waves, 0))
    return {row[1]: [bits[row[1]][wave] for wave in range(1, waves + 1)] for row in rows if row[0] == "out"}


def model_plan(rows):
    """By places of the box what stands there: the word of it and the names that it hangs on."""
    wide, _ = model_size(rows)
    names = [row[1] for row in made_by(rows)]
    gates = [row for row in made_by(rows) if row[0] != "in"]
    columns = {row[1]: (2 * j + 1, 2 * j + 2) for j, row in enumerate(gates)}
    outs = [row[1] for row in rows if row[0] == "out"]
    plan = {}
    for y, name in enumerate(names):
        x = columns[name][1] + 1 if name in columns else 0
        while x <= wide - 2:
            plan[x, y] = ("wire", name)
            x += 1
        if name in outs:
            plan[wide - 1, y] = ("mouth", name)
    for row in gates:
        word, name, *reads = row
        y = names.index(name)
        plan[columns[name][1], y] = (word, name)
        plan[columns[name][0], y] = ("bare",) if word == "one" else ("lead", reads[0])
        for x, read in zip(columns[name], reads):
            for between in range(names.index(read) + 1, y):
                plan[x, between] = ("cross", names[between], read)
    return plan


def model_sign(what, bits, wave):
    """The sign of what stands in a place, in a wave."""
    word, *names = what
    told = [bits[name][wave] for name in names]
    if word == "wire":
        return "bc"[told[0]]
    if word == "mouth":
        return "jk"[told[0]]
    if word == "lead":
        return "de"[told[0]]
    if word == "bare":
        return "x"
    if word == "cross":
        return {(0, 0): "f", (1, 0): "g", (0, 1): "h", (1, 1): "i"}[tuple(told)]
    return GATE_SIGNS[word][told[0]]


def model_cells(rows):
    """The cells of a machine as it is laid."""
    bits = model_bits(rows, {}, 0)
    return sorted((x, y, model_sign(what, bits, -(x + y))) for (x, y), what in model_plan(rows).items())


def some_machine(by, most=12, words=tuple(READS)):
    """The rows of a machine by chance."""
    names = list(NAMES)
    by.shuffle(names)
    rows, made, outs = [], [], []
    for _ in range(by.randint(1, most)):
        may = [word for word in words if (made or READS[word] == 0) and (word != "in" or [row[0] for row in rows].count("in") < 6)]
        word = by.choice(may) if may else "one"
        name = names.pop()
        rows.append((word, name, *[by.choice(made) for _ in range(READS[word])]))
        made.append(name)
        while by.random() < 0.4 and len(outs) < 6 and len(outs) < len(made):
            out = by.choice([name for name in made if name not in outs])
            outs.append(out)
            rows.append(("out", out))
    return rows


def ins_of(rows):
    return [row[1] for row in rows if row[0] == "in"]


def some_fed(by, rows, most=60):
    """What is fed to some of the ins of a machine, by chance."""
    return {
        name: [by.randint(0, 1) for _ in range(by.choice((0, 1, 2, 5, most, by.randint(0, most))))]
        for name in ins_of(rows) if by.random() < 0.8
    }
