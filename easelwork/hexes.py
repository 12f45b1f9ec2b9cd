"""Colors and pixels as texts of eight digits, two for each part."""

DIGITS = "0123456789abcdef"


def hex_text(parts):
    """The digits of the four parts."""
    return "".join([f"{part:02x}" for part in parts])


def hex_parts(text):
    """The four parts, or () if the text is not eight such digits."""
    if len(text) != 8 or not all([sign in DIGITS for sign in text]):
        return ()
    return tuple([int(text[k:k + 2], 16) for k in range(0, 8, 2)])
