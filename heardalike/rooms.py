"""A room of keepers that is told rows, and answers each with a text."""

from heardalike.deeds import is_what
from heardalike.deedtexts import deed_text, number_of, stamp_of, what_of, what_text
from heardalike.edits import END
from heardalike.errors import NoPath, NoRow, Stranger
from heardalike.keepers import Keeper
from heardalike.paths import led_to
from heardalike.stamps import is_field, is_name, is_stamp, stamp_text
from heardalike.valuetexts import value_text

# What stands behind each word of a row, part by part.
FORMS = {
    "put": ("path", "place", "what"),
    "give": ("path", "field", "what"),
    "move": ("path", "path", "place"),
    "undo": (),
    "again": (),
    "seen": (),
    "write": ("path", "place", "text"),
    "take": ("path",),
    "erase": ("path", "place", "many"),
    "hears": ("name",),
    "drop": (),
    "line": (),
    "shows": ("path",),
    "waits": (),
    "same": ("name",),
}

# Each of these reads a part of a row: it tells what is meant, or None where the part isn't so written.


def read_number(text):
    """A whole number from 0 on."""
    number = number_of(text)
    return number if number is not None and number >= 0 and str(number) == text else None


def read_field(text):
    """A FIELD."""
    return text if is_field(text) else None


def read_place(text):
    """A FIELD, `end` among them, or a number: a step is written so, too."""
    return text if is_field(text) else read_number(text)


def read_path(text):
    """A PATH."""
    if text == "/":
        return []
    steps = [read_place(step) for step in text.split("/")[1:]]
    return steps if text.startswith("/") and None not in steps else None


def read_what(text):
    """WHAT a thing is."""
    # Behind the first blank all is left whole, as a sign may be a blank itself.
    what = what_of(text.split(" ", 1))
    return what if is_what(what) and what_text(what) == text else None


def read_stamp(text):
    """A STAMP."""
    stamp = stamp_of(text)
    return stamp if is_stamp(stamp) and stamp_text(stamp) == text else None


def read_name(text):
    """A NAME."""
    return text if is_name(text) else None


def read_text(text):
    """A TEXT: all that there is."""
    return text


READERS = {
    "path": read_path,
    "place": read_place,
    "field": read_field,
    "what": read_what,
    "many": read_number,
    "stamp": read_stamp,
    "name": read_name,
    "text": read_text,
}


def read_part(kind, text):
    """What a part of a row of this kind means, or NoRow."""
    reader = READERS[kind]
    part = reader(text)
    if part is None:
        raise NoRow("a part of this row is not written as it should be")
    return part


def form_of(words):
    """The parts behind the second one of these words, or NoRow."""
    if len(words) < 2 or words[1] not in FORMS:
        raise NoRow("this row has no word that is known")
    if words[1] == "undo" and len(words) > 2:
        return ("stamp",)
    return FORMS[words[1]]


def read_row(row):
    """A row's name, its word, and its parts in a list, each in a tuple with its kind; or NoRow."""
    if not isinstance(row, str):
        raise NoRow("this is no text")
    form = form_of(row.split(" "))
    # The last part is left whole: a TEXT, and what is a sign, may have blanks.
    texts = row.split(" ", 1 + len(form))
    if len(texts) != 2 + len(form) or texts[1] not in FORMS:
        raise NoRow("this row has too few words, or too many")
    name = read_part("name", texts[0])
    return (name, texts[1], [(kind, read_part(kind, text)) for kind, text in zip(form, texts[2:])])


# Each of these answers a row, told the keeper that is named first, and the parts behind the word.


def place_meant(keeper, path, place):
    """A row's place, END for `end` where the path leads to a list or a text."""
    if place != "end":
        return place
    tree = keeper.tree()
    try:
        kind = tree.kind_of(led_to(tree, path))
    except NoPath:
        # The edit itself refuses this path, or another one ahead of it.
        return place
    return END if kind in ("list", "text") else place


def answer_put(keeper, parts):
    path, place, what = parts
    return deed_text(keeper.put(path, what, place=place_meant(keeper, path, place)))


def answer_give(keeper, parts):
    path, field, what = parts
    return deed_text(keeper.give(path, field, what)[-1])


def answer_move(keeper, parts):
    path, to, place = parts
    return deed_text(keeper.move(path, to, place=place_meant(keeper, to, place)))


def answer_undo(keeper, parts):
    return deed_text(keeper.undo(parts[0]) if parts else keeper.undo())


def answer_again(keeper, parts):
    return deed_text(keeper.again())


def answer_seen(keeper, parts):
    return deed_text(keeper.seen())


def answer_write(keeper, parts):
    path, place, text = parts
    return str(len(keeper.write(path, text, place=place_meant(keeper, path, place))))


def answer_take(keeper, parts):
    return str(len(keeper.take(parts[0])))


def answer_erase(keeper, parts):
    path, place, many = parts
    return str(len(keeper.erase(path, place=place_meant(keeper, path, place), many=many)))


def answer_hears(keeper, parts):
    return str(len(keeper.hear_all(parts[0].news(keeper.counts()))))


def answer_drop(keeper, parts):
    return str(keeper.drop())


def answer_line(keeper, parts):
    return str(keeper.line())


def answer_shows(keeper, parts):
    return value_text(keeper.at(parts[0]))


def answer_waits(keeper, parts):
    return str(len(keeper.waits()))


def answer_same(keeper, parts):
    return "yes" if value_text(keeper.shown()) == value_text(parts[0].shown()) else "no"


ANSWERS = {
    "put": answer_put,
    "give": answer_give,
    "move": answer_move,
    "undo": answer_undo,
    "again": answer_again,
    "seen": answer_seen,
    "write": answer_write,
    "take": answer_take,
    "erase": answer_erase,
    "hears": answer_hears,
    "drop": answer_drop,
    "line": answer_line,
    "shows": answer_shows,
    "waits": answer_waits,
    "same": answer_same,
}


class Room:
    """Keepers of one document, one for each of the room's names."""

    def __init__(self, names):
        self.keepers = {name: Keeper(name, among=names) for name in names}

    def keeper_of(self, name):
        """The keeper of this name, or Stranger."""
        if name not in self.keepers:
            raise Stranger(name)
        return self.keepers[name]

    def say(self, row):
        """Answer a row with a text; or NoRow, Stranger, or what the keeper refuses it with."""
        name, word, parts = read_row(row)
        keeper = self.keeper_of(name)
        answer = ANSWERS[word]
        return answer(keeper, [self.keeper_of(part) if kind == "name" else part for kind, part in parts])
