"""Codes: integers that stand for one literal of each of some names.

Each name has a bit, the first name the highest one. It is 1 where the negative literal is meant:
a turning that turns the name says yes to that literal. So codes are ordered as turnings are, and
as models are.
"""

from renamedhorn.literals import both_signs, is_positive, name_of, negated


def _bit(names, name):
    """The bit of a name in the codes over some names."""
    return 1 << (len(names) - 1 - names.index(name))


def all_codes(names):
    """All codes over some names, in ascending order."""
    return list(range(1 << len(names)))


def code_of(names, turned):
    """The code over names in which just the bits of the turned ones are 1."""
    return sum([_bit(names, name) for name in names if name in turned])


def turned_in(names, code):
    """The names whose bit in a code is 1."""
    return [name for name in names if code & _bit(names, name)]


def literals_in(names, code):
    """The literals for which a code stands, in the order of the names."""
    turned = turned_in(names, code)
    return [f"-{name}" if name in turned else name for name in names]


def recoded(names, codes, wanted):
    """Codes over names, each as a code over the wanted names; bits of further names are 0."""
    pairs = [(_bit(names, name), _bit(wanted, name)) for name in names if name in wanted]
    return [sum([there for here, there in pairs if code & here]) for code in codes]


def bits_of(names, literals):
    """The bits that are 0, and those that are 1, in each code that has all literals of the names."""
    plain = [literal for literal in literals if is_positive(literal)]
    turned = [name_of(literal) for literal in literals if not is_positive(literal)]
    return code_of(names, plain), code_of(names, turned)


def having(codes, bits):
    """The codes in which some bits are 0 and others are 1."""
    zeros, ones = bits
    return [code for code in codes if code & zeros == 0 and code & ones == ones]


def lacking(codes, bits):
    """The codes in which not all of some bits are 0 and of others 1."""
    zeros, ones = bits
    return [code for code in codes if code & zeros != 0 or code & ones != ones]


def model_codes(book, names):
    """The codes over names, those of a book among them, that have a literal of each of its clauses."""
    codes = all_codes(names)
    for number in book:
        codes = lacking(codes, bits_of(names, [negated(literal) for literal in book[number]]))
    return codes


def bonded(codes, when, then):
    """The codes that have the bits of the second pair if they have those of the first one."""
    zeros, ones = when
    more_zeros, more_ones = then
    return [
        code
        for code in codes
        if code & zeros != 0
        or code & ones != ones
        or (code & more_zeros == 0 and code & more_ones == more_ones)
    ]


def common_bits(names, codes):
    """The bits that are 0, and those that are 1, in all codes; without codes that is each bit."""
    zeros = ones = (1 << len(names)) - 1
    for code in codes:
        zeros = zeros & ~code
        ones = ones & code
    return zeros, ones


def common_literals(names, codes):
    """The literals that all codes have; without codes that is each literal."""
    zeros, ones = common_bits(names, codes)
    return turned_in(names, zeros) + [f"-{name}" for name in turned_in(names, ones)]


def by_needs(names, needed):
    """The codes over names that have no literal without all the literals that it needs."""
    codes = all_codes(names)
    for literal, others in needed.items():
        codes = bonded(codes, bits_of(names, [literal]), bits_of(names, others))
    return codes


def closure(names, codes):
    """The codes of the least set that holds these and the median of each three that it holds."""
    if not codes:
        return []
    found = all_codes(names)
    # Such a set is determined by the pairs of literals that its codes have together.
    for literal in both_signs(names):
        own = bits_of(names, [literal])
        found = bonded(found, own, common_bits(names, having(codes, own)))
    return found


def _ties(names, codes):
    """For each name the names whose bits are not free of its bit in the codes."""
    fixed_zeros, fixed_ones = common_bits(names, codes)
    ties = {}
    for name in names:
        tied = 0
        for literal in (name, f"-{name}"):
            own = having(codes, bits_of(names, [literal]))
            # A literal that no code has ties nothing.
            if own:
                zeros, ones = common_bits(names, own)
                tied = tied | (zeros & ~fixed_zeros) | (ones & ~fixed_ones)
        ties[name] = turned_in(names, tied)
    return ties


def _tied_to(ties, start):
    """All names to which ties lead from a name, that name first."""
    part = [start]
    done = 0
    while done < len(part):
        tied = ties[part[done]]
        done = done + 1
        part = part + [name for name in tied if name not in part]
    return part


def apart_parts(names, codes):
    """The finest parts of the names such that the codes are all those that the parts allow."""
    ties = _ties(names, codes)
    parts = []
    for name in names:
        if not any([name in part for part in parts]):
            parts.append(_tied_to(ties, name))
    return parts
