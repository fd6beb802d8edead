"""The parts of a family: reading them, what they mention, and writing them in the canonical way."""

from earlyfields.errors import BadText
from earlyfields.reading import Reader, read_braces
from earlyfields.steps import method_in, name_in, steps_with_paths
from earlyfields.texts import write_block
from earlyfields.words import HEADS, is_accessor, is_method, word_of


class ClassPart:
    """A class as it is written, sound or not.

    parents are its bases, born the names of its class values, ascending, vows the names that it promises,
    ascending, for each key, rows its members in the order of the text, as (key, grade, body), and own the
    pair (grade, body) for each key.
    """

    def __init__(self, name, parents, born, vows, rows):
        self.name = name
        self.parents = tuple(parents)
        self.born = tuple(sorted(born))
        self.vows = {key: tuple(sorted(vows[key])) for key in sorted(vows)}
        self.rows = tuple(rows)
        self.own = {key: (grade, body) for key, grade, body in rows}


def read_family(text):
    """The shared names, ascending, and the class parts of any value that is the text of a family."""
    reader = Reader(text)
    shared = {}
    parts = []
    while reader.token() == "shared" or reader.token() == "class":
        if reader.token() == "shared":
            reader.take("shared")
            read_names(reader, shared)
        else:
            parts.append(read_class(reader))
    reader.finish()
    return tuple(sorted(shared)), parts


def read_heirs(text):
    """The class parts of any value that is a text of class parts only."""
    reader = Reader(text)
    parts = []
    while reader.token() == "class":
        parts.append(read_class(reader))
    reader.finish()
    return parts


def read_names(reader, names):
    """Takes names up to the semicolon behind them, and makes each one a key of the dict names."""
    names[reader.take_word()] = True
    while reader.token() == ",":
        reader.take(",")
        names[reader.take_word()] = True
    reader.take(";")


def read_class(reader):
    """The class part that begins here."""
    reader.take("class")
    name = reader.take_class()
    parents = read_parents(reader)
    born = {}
    vows = {}
    rows = []
    reader.take("{")
    while reader.token() != "}":
        if reader.token() == "value":
            reader.take("value")
            read_names(reader, born)
        elif reader.token() == "promise":
            read_vow(reader, vows)
        else:
            rows.append(read_member(reader))
    reader.take("}")
    return ClassPart(name, parents, born, vows, rows)


def read_parents(reader):
    """The base classes in parentheses, if there are any."""
    parents = []
    if reader.token() == "(":
        reader.take("(")
        parents.append(reader.take_class())
        while reader.token() == ",":
            reader.take(",")
            parents.append(reader.take_class())
        reader.take(")")
    return parents


def read_vow(reader, vows):
    """Takes a promise, and adds its names to those that vows has for its key."""
    reader.take("promise")
    key = read_key(reader)
    reader.take(":")
    read_names(reader, vows.setdefault(key, {}))


def read_member(reader):
    """The member that begins here, as (key, grade, body)."""
    grade = "open"
    if reader.token() == "chained" or reader.token() == "final":
        grade = reader.advance()
    key = read_key(reader)
    return key, grade, read_braces(reader, 0)


def read_key(reader):
    """The key that begins here."""
    head = reader.token()
    if head == "init":
        return reader.take("init")
    if head not in HEADS:
        raise BadText(reader.position())
    reader.take(head)
    return head + " " + reader.take_word()


def steps_in(parts):
    """All steps of the class parts."""
    steps = []
    for part in parts:
        for key, grade, body in part.rows:
            steps.extend([step for path, step in steps_with_paths(body)])
    return steps


def mentioned_keys(parts):
    """The keys of all members and promises of the class parts, perhaps several times."""
    keys = []
    for part in parts:
        keys.extend([key for key, grade, body in part.rows])
        keys.extend(list(part.vows))
    return keys


def names_in(shared, parts):
    """The names of a family with these shared names and class parts, ascending."""
    names = {name: True for name in shared}
    for part in parts:
        for name in part.born:
            names[name] = True
        for key in part.vows:
            for name in part.vows[key]:
                names[name] = True
    for key in mentioned_keys(parts):
        if is_accessor(key):
            names[word_of(key)] = True
    for step in steps_in(parts):
        word = name_in(step)
        if word is not None:
            names[word] = True
    return tuple(sorted(names))


def methods_in(parts):
    """The methods of a family with these class parts, ascending."""
    methods = {}
    for key in mentioned_keys(parts):
        if is_method(key):
            methods[word_of(key)] = True
    for step in steps_in(parts):
        word = method_in(step)
        if word is not None:
            methods[word] = True
    return tuple(sorted(methods))


def family_text(shared, lines):
    """The canonical text of a family with these shared names and these lines for its classes."""
    if len(shared) == 0:
        return "\n".join(lines)
    return "\n".join(["shared " + ", ".join(shared) + ";"] + lines)


def class_line(part):
    """The canonical text of a class part."""
    head = "class " + part.name
    if len(part.parents) > 0:
        head = head + "(" + ", ".join(part.parents) + ")"
    pieces = []
    if len(part.born) > 0:
        pieces.append("value " + ", ".join(part.born) + ";")
    for key in part.vows:
        pieces.append(promise_text(key, part.vows[key]))
    for key in sorted(part.own):
        pieces.append(member_text(key, part.own[key]))
    return " ".join([head, "{"] + pieces + ["}"])


def promise_text(key, names):
    """The text of a promise of one or more names for a key."""
    return "promise " + key + ": " + ", ".join(names) + ";"


def member_text(key, member):
    """The canonical text of a member, given as a pair of its grade and its body."""
    grade, body = member
    text = key + " " + write_block(body)
    if grade == "open":
        return text
    return grade + " " + text
