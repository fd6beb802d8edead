"""Families and extensions by chance, with everything that the document knows."""

from earlyfields.errors import EarlyError
from earlyfields.families import Family

SIMPLE = ("set", "keep", "read", "look", "call", "super", "super", "call", "set", "keep", "of", "make", "fail")
NESTED = ("try", "if", "either", "loop")


class Drawer:
    """Draws texts over some names and methods."""

    def __init__(self, rng, names="ab", methods="m", looks=0.3):
        self.rng, self.names, self.methods, self.looks = rng, names, methods, looks

    def step(self, olds, classes, depth):
        """The text of a step of an old class with these ancestors."""
        rng = self.rng
        word = rng.choice(NESTED if depth < 2 and rng.random() < 0.2 else SIMPLE)
        if word in ("read", "look") and rng.random() > self.looks:
            word = rng.choice(("set", "keep"))
        if word in ("set", "keep", "read", "look"):
            return "%s %s;" % (word, rng.choice(self.names))
        if word == "call":
            return "call %s;" % rng.choice(self.methods) if self.methods else "super;"
        if word == "of":
            return "of %s;" % rng.choice(olds) if olds else "super;"
        if word == "make":
            return "make %s;" % rng.choice(classes) if rng.random() < 0.4 else "super;"
        if word in ("super", "fail"):
            return word + ";"
        blocks = ["{ %s }" % self.body(olds, classes, depth + 1) for _ in range(rng.randint(2, 3))]
        return {"try": "try %s catch %s" % tuple(blocks[:2]), "if": "if %s %s else %s" % (rng.choice(self.names), blocks[0], blocks[1]),
                "either": "either " + " or ".join(blocks), "loop": "loop " + blocks[0]}[word]

    def body(self, olds, classes, depth=0):
        """The text of a body."""
        return " ".join([self.step(olds, classes, depth) for _ in range(self.rng.choice([0, 1, 1, 2, 2, 3]))])

    def keys(self):
        """The keys that members may have."""
        keys = ["init"] + ["method " + method for method in self.methods]
        return keys + [kind + " " + name for kind in ("getter", "setter") for name in self.names]

    def names_text(self):
        """The text of one or two names."""
        return ", ".join(self.rng.sample(self.names, min(len(self.names), self.rng.choice([1, 1, 2]))))

    def member(self, key, olds, classes, grades=True):
        """The text of a member."""
        body = self.body(olds, classes)
        if self.rng.random() < 0.3:
            body = "super; " + body
        grade = self.rng.choice(["", "", "", "", "chained ", "final "]) if grades else ""
        return "%s%s { %s }" % (grade, key, body)

    def class_text(self, name, bases, olds, classes):
        """The text of a class."""
        rng, parts = self.rng, []
        if rng.random() < 0.2:
            parts.append("value %s;" % self.names_text())
        for key in self.keys():
            if rng.random() < 0.12:
                parts.append("promise %s: %s;" % (key, self.names_text()))
            if rng.random() < {"init": 0.8, "method": 0.6}.get(key.split()[0], 0.2):
                parts.append(self.member(key, olds, classes))
        return "class %s%s { %s }" % (name, "(%s)" % ", ".join(bases) if bases else "", " ".join(parts))

    def family(self, most):
        """A sound family of at most so many classes."""
        rng = self.rng
        while True:
            classes = ["A", "B", "C", "D"][:rng.randint(1, most)]
            bases = [rng.sample(classes[:at], min(at, rng.choice([0, 0, 1, 1, 2]))) for at in range(len(classes))]
            try:
                bare = Family(" ".join(["class %s%s { }" % (name, "(%s)" % ", ".join(row) if row else "") for name, row in zip(classes, bases)]))
                shared = "shared %s; " % self.names_text() if rng.random() < 0.4 else ""
                rows = [self.class_text(name, row, bare.order(name)[1:], classes) for name, row in zip(classes, bases)]
                return Family(shared + " ".join(rows))
            except EarlyError:
                continue

    def heir_step(self, names, depth):
        """The text of a step of an heir that may read some names."""
        rng = self.rng
        word = rng.choice(NESTED if depth < 2 and rng.random() < 0.3 else ("super", "super", "call", "call", "set", "read", "fail"))
        if word == "read" and not names:
            word = "call"
        if word in ("super", "fail"):
            return word + ";"
        if word == "call":
            return "call %s;" % rng.choice(self.methods + "z")
        if word == "set":
            return "set %s;" % rng.choice(self.names + "y")
        if word == "read":
            return "read %s;" % rng.choice(names)
        blocks = ["{ %s }" % self.heir_body(names, depth + 1) for _ in range(rng.randint(2, 3))]
        return {"try": "try %s catch %s" % tuple(blocks[:2]), "if": "if %s %s else %s" % (rng.choice(self.names + "y"), blocks[0], blocks[1]),
                "either": "either " + " or ".join(blocks), "loop": "loop " + blocks[0]}[word]

    def heir_body(self, names, depth=0):
        """The text of the body of an heir's member."""
        return " ".join([self.heir_step(names, depth) for _ in range(self.rng.choice([0, 1, 2, 2, 3]))])

    def heir_text(self, family, name, bases, olds, sealed):
        """The text of an heir with these old ancestors that leaves the sealed keys alone."""
        rng, parts = self.rng, []
        keys = ["init"] + ["method " + method for method in self.methods + "z"]
        keys += sorted({key for old in olds for key in family.own_keys(old) if key.split()[0] in ("getter", "setter")})
        if rng.random() < 0.1:
            parts.append("value y;")
        for key in keys:
            if key in sealed or rng.random() < 0.4:
                continue
            names = sorted({word for old in olds for word in family.promise(old, key)})
            body = self.heir_body(names)
            if key == "init" or rng.random() < 0.3:
                body = "super; " + body
            parts.append("%s%s { %s }" % (rng.choice(["", "", "", "", "", "chained ", "final "]), key, body))
        return "class %s%s { %s }" % (name, "(%s)" % ", ".join(bases) if bases else "", " ".join(parts))

    def extension(self, family, sealed=()):
        """A lawful extension that leaves the sealed keys alone."""
        rng = self.rng
        while True:
            wide = family
            for name in ["H", "J", "K", "L"][:rng.randint(1, 4)]:
                known = list(wide.classes)
                bases = rng.sample(known, min(len(known), rng.choice([0, 1, 2, 2, 3])))
                try:
                    bare = wide.extended("class %s%s { }" % (name, "(%s)" % ", ".join(bases) if bases else ""))
                    olds = bare.old_order(name)
                    for _ in range(5):
                        try:
                            wide = wide.extended(self.heir_text(family, name, bases, olds, sealed))
                            break
                        except EarlyError:
                            continue
                except EarlyError:
                    continue
            if wide is not family:
                return wide

    def story(self, wide):
        """A lawful story for an extension, mostly with objects of heirs."""
        rng, deeds, made = self.rng, [], None
        for _ in range(rng.randint(1, 7)):
            word = rng.choice(("make", "make", "call", "call", "set", "read"))
            if made is None or word == "make":
                made = rng.choice(wide.classes if rng.random() < 0.2 else wide.heirs)
                deeds.append(("make", made))
            elif word == "read":
                names = sorted({name for owner in wide.order(made) for name in wide.promise(owner, "init")})
                deeds.extend([("read", rng.choice(names))] if names else [])
            else:
                deeds.append((word, rng.choice({"call": self.methods + "z", "set": self.names + "y"}[word])))
        return deeds
