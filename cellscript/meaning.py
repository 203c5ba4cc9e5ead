"""What machines mean: the bits of their names, wave by wave."""


def meaning(machine, fed, waves):
    """For each name that is told out the list of its bits in the waves from 1 on, so many."""
    bits = waves_of(machine, fed, waves)
    return {name: [bits[wave][name] for wave in range(1, waves + 1)] for name in machine.outs()}


def waves_of(machine, fed, last):
    """By waves, from the first one in which a name may be 1 to the last one, dicts of the names' bits."""
    told, bits = {}, {name: 0 for name in machine.names()}
    for wave in range(-(machine.wide() + machine.high()), last + 1):
        bits = _bits_of(machine, fed, wave, bits)
        told[wave] = bits
    return told


def _bits_of(machine, fed, wave, ahead):
    """The bits of the names in a wave, ahead being those of the wave ahead."""
    bits = {}
    for row in machine.rows():
        if row[0] == "in":
            bits[row[1]] = _fed_bit(fed.get(row[1], []), wave)
        elif row[0] != "out":
            bits[row[1]] = _made_bit(row[0], [bits[name] for name in row[2:]], ahead[row[1]])
    return bits


def _fed_bit(bits, wave):
    return bits[wave - 1] if 1 <= wave <= len(bits) else 0


def _made_bit(word, reads, ahead):
    """What a row of a word makes of the bits that it reads, and of its own one ahead."""
    if word == "one":
        return 1
    if word == "not":
        return 1 - reads[0]
    if word == "flip":
        return ahead ^ reads[0]
    if word == "and":
        return reads[0] & reads[1]
    if word == "or":
        return reads[0] | reads[1]
    if word == "xor":
        return reads[0] ^ reads[1]
    return reads[0] if reads[1] == 1 else ahead
