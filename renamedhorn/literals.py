"""Names and literals: what they are, and the orders in which they stand."""

from renamedhorn.errors import BadLiteral, BadName, BothSigns, NoName, OtherNames, TooMany

LETTERS = "abcdefghijklmnopqrstuvwxyz"
LETTERS_AND_DIGITS = "abcdefghijklmnopqrstuvwxyz0123456789"
LONGEST_NAME = 8


def is_name(text):
    """Tell whether a string is a name."""
    if not 1 <= len(text) <= LONGEST_NAME:
        return False
    return text[0] in LETTERS and all([sign in LETTERS_AND_DIGITS for sign in text])


def is_literal(text):
    """Tell whether a string is a name, or a minus sign and a name."""
    return is_name(text.removeprefix("-"))


def check_name(text):
    """Raise BadName if a string is not a name."""
    if not is_name(text):
        raise BadName(text)


def check_literal(text):
    """Raise BadLiteral if a string is not a literal."""
    if not is_literal(text):
        raise BadLiteral(text)


def name_of(literal):
    """The name of a literal."""
    check_literal(literal)
    return literal.removeprefix("-")


def is_positive(literal):
    """Tell whether a literal is a name without a sign."""
    return name_of(literal) == literal


def negated(literal):
    """The literal of the same name and the other sign."""
    if is_positive(literal):
        return f"-{literal}"
    return name_of(literal)


def names_in_order(names):
    """The different names of a list, in ascending order."""
    for name in names:
        check_name(name)
    return sorted(set(names))


def both_signs(names):
    """Both literals of each name, the positive one first."""
    return [literal for name in names for literal in (name, f"-{name}")]


def in_order(literals):
    """The different literals of a list, in literal order."""
    names = [name_of(literal) for literal in literals]
    return [literal for literal in both_signs(sorted(set(names))) if literal in literals]


def check_signs(ordered):
    """Raise BothSigns for the first name of which both literals are among some in literal order."""
    for literal in ordered:
        if negated(literal) in ordered:
            raise BothSigns(name_of(literal))


def few_names(names, limit):
    """The different names of a list, in ascending order; more than the limit are refused."""
    ordered = names_in_order(names)
    if len(ordered) > limit:
        raise TooMany(limit)
    return ordered


def check_known(names, wanted):
    """Raise NoName for the first wanted name that is not among the names."""
    for name in wanted:
        if name not in names:
            raise NoName(name)


def check_same(names, others):
    """Raise OtherNames if two rows of names are not the same."""
    if list(names) != list(others):
        raise OtherNames()
