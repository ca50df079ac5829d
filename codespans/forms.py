"""The forms of the entries of a table."""

# Forms below LINE are "short", forms from LINE to below BARE are "line".
LINE = 10
BARE = 13
LONG = 14
NONE = 15

HIGH_NAMES = ("line", "line", "line", "bare", "long", "none")


def name_of(form):
    """Return the name of a form."""
    return "short" if form < LINE else HIGH_NAMES[form - LINE]
