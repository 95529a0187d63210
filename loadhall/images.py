"""Images: halls as texts, and halls made of these."""

from loadhall.codes import coded, decoded
from loadhall.finders import Along, Barred, Built, Other
from loadhall.halls import Hall
from loadhall.states import bring, state_of


def state_of_finder(finder):
    """Tell a finder as a tuple: its word, and what it was made with."""
    if isinstance(finder, Built):
        return (finder.word, finder.bodies)
    if isinstance(finder, Other):
        return (finder.word, finder.old, finder.new)
    if isinstance(finder, Barred):
        return (finder.word, finder.barred)
    return (finder.word,)


def finder_by(state):
    """Make a finder of its tuple."""
    word, *made_with = state
    if word == "built":
        return Built(made_with[0])
    if word == "other":
        return Other(made_with[0], made_with[1])
    if word == "barred":
        return Barred(made_with[0])
    return Along()


def image(hall):
    """Tell all that a hall is, but its marks, as a text."""
    return coded((state_of(hall), tuple([state_of_finder(finder) for finder in hall.finders])))


def hall_by(text):
    """Make a hall that is as the one was whose image this is."""
    state, finders = decoded(text)
    hall = Hall()
    bring(hall, state, {})
    hall.finders = tuple([finder_by(finder) for finder in finders])
    return hall
