"""What lies along the path of a hall, as it lies: no kept list and no kept form is asked."""

from loadhall.bodies import read_body
from loadhall.errors import NoBody, NoName
from loadhall.finders import Along
from loadhall.names import elder_of, elders, is_name, near_name
from loadhall.stores import Lists


class Lying:
    """The names that lie along a hall's path; to Along it is a hall of which nothing was listed yet."""

    def __init__(self, hall):
        self.lists = Lists()
        self.stores = hall.stores
        self.path = hall.path
        self.along = Along()
        self.answers = {}
        self.bodies = {}
        self.wanted = {}

    def store(self, part):
        """Tell a store of the hall."""
        return self.stores[part]

    def ask(self, name):
        """Tell what Along tells of a name, with the places of its elder."""
        elder = elder_of(name)
        places = self.path
        if elder is not None:
            above = self.answer(elder)
            places = None if above is None else above[2]
        return None if places is None else self.along.find(name, places, self)

    def answer(self, name):
        """Tell what Along tells of a name, as it was told first."""
        if name not in self.answers:
            self.answers[name] = self.ask(name)
        return self.answers[name]

    def lies(self, name):
        """Tell whether a body lies under the name."""
        if not is_name(name):
            return False
        found = self.answer(name)
        return found is not None and found[0] == "body"

    def all_names(self):
        """Tell the rising list of the names that lie."""
        names = {name: True for part in self.path for name in self.stores[part].names()}
        return [name for name in sorted(names) if self.lies(name)]

    def places_of(self, name):
        """Tell the places of a name that lies, None where it is no pack."""
        return self.answer(name)[2]

    def rows_under(self, name):
        """Tell the rows of the body that lies under the name, None where it can't be read."""
        if name not in self.bodies:
            text = self.stores[self.answer(name)[1]].entry(name)[0]
            self.bodies[name] = rows_of(text)
        return self.bodies[name]

    def near(self, name, word):
        """Tell the name that a word means in the body of a name, the word itself where it means none there."""
        try:
            return near_name(word, base=name, pack=self.places_of(name) is not None)
        except NoName:
            # it has dots ahead, so it is no name, and nothing lies under it
            return word

    def row_wants(self, name, row):
        """Tell what a row of the body of a name wants, in order."""
        if row[0] == "load":
            return elders(row[1])
        if row[0] != "from":
            return []
        near = self.near(name, row[1])
        if not is_name(near):
            return [near]
        beneath = f"{near}.{row[3]}"
        return elders(near) + ([beneath] if self.lies(beneath) else [])

    def wants(self, name):
        """Tell what the body that lies under the name wants, row by row, none where it can't be read."""
        if name not in self.wanted:
            rows = self.rows_under(name) or ()
            self.wanted[name] = [want for row in rows for want in self.row_wants(name, row)]
        return list(self.wanted[name])


def rows_of(text):
    """Tell the rows of a body as a tuple, None where it can't be read."""
    try:
        return tuple(read_body(text))
    except NoBody:
        return None
