"""The signs that the strings of values, layers and states may hold."""

# The percent sign stands in no string of the program, so it is known by its number.
PERCENT = 37


def may_stand(sign):
    """True if a string may hold the sign: a single one, or the empty string, which is no sign."""
    return " " <= sign <= "}" and ord(sign) != PERCENT


def is_plain(text):
    """True if a string may hold all signs of the text."""
    return all([may_stand(sign) for sign in text])
