"""The words by which is told what falls, or what is not to be shared."""

from sparenext.errors import NoWord

FALLEN_WORDS = ("tie", "house")
APART_WORDS = ("ties", "houses")


def refuse_word(word, known):
    """Refuse a word that is none of the known ones."""
    if word not in known:
        raise NoWord("the word is none of these: " + ", ".join(known))
