"""Names: what tables and variables are called."""

NAME_LIMIT = 20
LETTERS = "abcdefghijklmnopqrstuvwxyz"
NAME_SIGNS = "abcdefghijklmnopqrstuvwxyz0123456789"


def is_word(text):
    """Tell whether a string is not empty and has only signs that names have."""
    return text != "" and all([sign in NAME_SIGNS for sign in text])


def is_name(text):
    """Tell whether something is a name."""
    if not isinstance(text, str) or not is_word(text):
        return False
    return len(text) <= NAME_LIMIT and text[0] in LETTERS
