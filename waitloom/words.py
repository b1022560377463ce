"""Words: a text is cut into brackets and what stands between them."""

from waitloom.errors import BadText

MOST_SIGNS = 6000
# The language itself has no use for this sign.
PERCENT = 37


def is_text_sign(sign):
    """Whether a sign may stand in a text."""
    return sign == "\n" or " " <= sign <= "~" and ord(sign) != PERCENT


def is_text(thing):
    """Whether a thing is a text of the language."""
    if not isinstance(thing, str) or len(thing) > MOST_SIGNS:
        return False
    return all([is_text_sign(sign) for sign in thing])


def words_of(text):
    """The list of the words of a text."""
    if not is_text(text):
        raise BadText("this is no text of the language")
    return text.replace("(", " ( ").replace(")", " ) ").split()
