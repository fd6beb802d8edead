"""Points 21 and 22: floors and derivations, those of verdicts and others, and what is none."""

import itertools
import random

from earlyfields.checking import is_derivation, is_floor
from earlyfields.errors import BadKey, TooMany
from earlyfields.families import Family
from earlyfields.judging import judge
from tests.claimed import holds, number_seen
from tests.drawn import Drawer
from tests.helpers import STRANGE, Case

EARLY = "class A { init { super; set a; } method m { look a; } }"
LATE = "class A { init { set a; super; } method m { look a; } }"
OTHERS = (None, True, False, 0, 1, 2, -1, -2, 5, "init", "end", "failed", "gap", "method m", "a", "A", "seen", "floor", (), ("a",), ("b",),
          ("a", "b"), ("b", "a"), ("a", "a"), ("A",), [])


def places_in(value, ahead=()):
    """The paths of all parts of a value."""
    rows = [ahead]
    if isinstance(value, (tuple, list)):
        for index, part in enumerate(value):
            rows += places_in(part, ahead + (index,))
    return rows


def part_at(value, path):
    """The part of a value with a path."""
    for index in path:
        value = value[index]
    return value


def replaced(value, path, part):
    """The value with another part."""
    if path == ():
        return part
    rows = list(value)
    rows[path[0]] = replaced(value[path[0]], path[1:], part)
    return value.__class__(rows)


def changed(rng, value):
    """The value with a part that is changed in some way."""
    places = places_in(value)
    path = rng.choice(places)
    old, way = part_at(value, path), rng.random()
    if isinstance(old, int) and not isinstance(old, bool) and way < 0.4:
        return replaced(value, path, bool(old) if way < 0.1 else old + rng.choice([1, -1, 5]))
    if isinstance(old, (tuple, list)) and old and way < 0.6:
        rows, at = list(old), rng.randrange(len(old))
        kind = rng.choice(("list", "less", "twice", "mixed"))
        if kind == "less":
            rows.pop(at)
        elif kind == "twice":
            rows.append(rows[at])
        elif kind == "mixed":
            rng.shuffle(rows)
        return replaced(value, path, rows if kind == "list" else tuple(rows))
    return replaced(value, path, part_at(value, rng.choice(places)) if way < 0.8 else rng.choice(OTHERS))


def parts_of(names):
    """All tuples of some of the names, in ascending order."""
    return [row for size in range(len(names) + 1) for row in itertools.combinations(names, size)]


def thawed(floor):
    """The number, the states and the tables of a floor, as lists that can be changed."""
    return floor[1], [list(row) for row in floor[2]], [[world, [list(row) for row in rows]] for world, rows in floor[3]]


def frozen(number, states, tables):
    """The floor of such parts."""
    return "floor", number, tuple([tuple(row) for row in states]), tuple([(world, tuple([tuple(row) for row in rows])) for world, rows in tables])


class FloorTest(Case):
    def floor(self, family, thing, expected, sealed=()):
        """A value is a floor or none, as the plain check says, too."""
        self.assertIs(holds(family, thing, sealed), expected, thing)
        self.assertIs(is_floor(family, thing, sealed=sealed), expected, thing)

    def test_written_by_hand(self):
        family = Family("class A { final init { keep a; } }")
        user = (-1, "init", ("a",), (), (("end", ("a",), (), 0),), None)
        init = ("A", "init", (), (), (("end", ("a",), (), 1),), None)
        empty = ((), ((0, "init", (), (), (("end", (), (), 0), ("failed", (), (), 0), ("end", ("a",), (), 0), ("failed", ("a",), (), 0)), None),
                      (-1, "init", (), (), (("end", (), (), 0), ("end", ("a",), (), 0)), None),
                      (-1, "init", ("a",), (), (("end", ("a",), (), 0),), None)))
        state = (((), 0),)
        good = ("floor", None, state, (empty, (("A",), (init, user))))
        self.floor(family, good, True)
        self.floor(family, ("floor", 7, state, ((("A",), (user, init)), empty)), True)
        self.floor(family, ("floor", None, state, (empty, (("A",), (init,)))), False)
        self.floor(family, ("floor", None, state, (empty, (("A",), (user,)))), False)
        self.floor(family, ("floor", None, state, ((("A",), (init, user)),)), False)
        self.floor(family, ("floor", None, (), (empty, (("A",), (init, user)))), False)
        self.floor(family, ("floor", None, (((), 1),), (empty, (("A",), (init, user)))), False)
        for ends, gap, expected in (
                ((("end", ("a",), (), 0),), None, True), ((("end", ("a",), (), 2),), None, False), ((("failed", ("a",), (), 1),), None, False),
                ((), None, False), ((("end", ("a",), (), 1),), 3, False), ((("end", ("a",), (), 1), ("failed", (), (), 9)), None, True),
                ((("end", ("a",), (), 1), ("end", ("a",), (), 1)), None, False), ((("end", ("a",), (), True),), None, False),
                ((("end", (), (), 1), ("end", ("a",), (), 1)), None, False), ((("end", ("b",), (), 1), ("end", ("a",), (), 1)), None, False),
                ((("end", ("a", "a"), (), 1),), None, False), ((("end", ["a"], (), 1),), None, False), ((["end", ("a",), (), 1],), None, False),
                ([("end", ("a",), (), 1)], None, False), ((("end", ("a",), (), 1),), -1, False), ((("end", ("a",), (), 1),), False, False)):
            table = (("A",), (("A", "init", (), (), ends, gap), user))
            self.floor(family, ("floor", None, state, (empty, table)), expected)
        # Then the life comes to a gap, too.
        self.floor(family, ("floor", 3, state, (empty, (("A",), (init[:5] + (3,), user)))), True)
        self.floor(family, ("floor", 4, state, (empty, (("A",), (init[:5] + (3,), user)))), False)
        # A row that is not needed, of a state that never comes.
        more = ("A", "init", ("a",), (), (("end", ("a",), (), 1),), None)
        self.floor(family, ("floor", None, state, (empty, (("A",), (init, user, more)))), True)
        self.floor(family, ("floor", None, state, (empty, (("A",), (init, user, more[:4] + ((), None))))), False)
        self.floor(family, ("floor", None, state, (empty, (("A",), (init, user)), ("A", (more,)))), True)
        self.floor(family, ("floor", None, state, (empty, (("A",), (init, user)), ("A", (user,)))), False)
        self.floor(family, ("floor", None, state, (empty, (("A",), (init, user)), ("A", ()), ("A", ()))), False)

    def test_failed_ends_of_the_user_count_alike(self):
        family = Family("shared s; class A { final init { keep a; } }")
        number, states, tables = thawed(judge(family).floor)
        for world, rows in tables:
            for row in rows:
                if row[0] == -1:
                    row[4] = row[4] + (("failed", (), (), 0),)
        # Then lives end with no shared names still, which changes nothing from no shared names on.
        self.floor(family, frozen(number, [[(), 0], [("s",), 0]], tables), True)
        for world, rows in tables:
            for row in rows:
                if row[0] == -1:
                    row[4] = tuple([("failed",) + end[1:] for end in row[4] if end[0] == "end"])
        self.floor(family, frozen(number, [[(), 0], [("s",), 0]], tables), False)

    def test_own_may_have_any_names(self):
        family = Family("shared s; class A { final init { look s; } }")
        number, states, tables = thawed(judge(family).floor)
        table = [rows for world, rows in tables if world == ("A",)][0]
        table.append(["A", "init", ("s",), (), (("end", ("s",), (), 1),), None])
        self.floor(family, frozen(number, states, tables), True)
        table[-1][4] = (("end", ("s",), (), 2),)
        self.floor(family, frozen(number, states, tables), False)
        table[-1][2:] = [("s",), ("s",), (("end", ("s",), ("s",), 1),), None]
        self.floor(family, frozen(number, states, tables), True)
        table[-1][3] = ("a",)
        self.floor(family, frozen(number, states, tables), False)

    def test_unneeded_ends_and_rows_are_taken_as_they_stand(self):
        family = Family("shared s; class A { final init { call m; look s; } final method m { keep s; } }")
        number, states, tables = thawed(judge(family).floor)
        self.floor(family, frozen(number, states, tables), True)
        table = [rows for world, rows in tables if world == ("A",)][0]
        row = [row for row in table if row[:4] == ["A", "method m", (), ()]][0]
        row[4] = row[4] + (("failed", (), (), 4),)
        self.floor(family, frozen(number, states, tables), False)
        init = [row for row in table if row[:4] == ["A", "init", (), ()]][0]
        init[4] = init[4] + (("failed", (), (), 5),)
        self.floor(family, frozen(number, states, tables), True)
        # An end that takes names away, or gives the object a shared name, counts as it stands.
        row[4] = row[4] + (("end", ("s",), (), 4),)
        init[4] = init[4] + (("end", ("s",), (), 6),)
        self.floor(family, frozen(number, states, tables), False)
        table += [["A", "method m", ("s",), shared, (("end", ("s",), ("s",), 1),), None] for shared in ((), ("s",))]
        table += [[-1, "init", ("s",), shared, (("end", ("s",), (), 0), ("end", ("s",), ("s",), 0)), None] for shared in ((), ("s",))]
        self.floor(family, frozen(number, states, tables), True)

    def test_costs_below_the_least(self):
        family = Family("class A { final init { keep a; call m; } final method m { keep b; look b; } }")
        number, states, tables = thawed(judge(family).floor)
        for world, rows in tables:
            for row in rows:
                row[4] = tuple([end[:3] + (0,) for end in row[4]])
        self.floor(family, frozen(number, states, tables), True)

    def test_any_order(self):
        rng = random.Random(21)
        for _ in range(15):
            family = Drawer(rng, looks=0.5).family(2)
            number, states, tables = thawed(judge(family).floor)
            for rows in [states, tables] + [rows for world, rows in tables]:
                rng.shuffle(rows)
            for world, rows in tables:
                for row in rows:
                    row[4] = tuple(rng.sample(row[4], len(row[4])))
            self.floor(family, frozen(number, states, tables), True)

    def test_another_number(self):
        for text in (EARLY, LATE):
            family = Family(text)
            floor = judge(family).floor
            for number in (None, 0, 1, 2, 3, -1, True, False, "2", (2,), [2]):
                self.floor(family, replaced(floor, (1,), number), (number is None and text == LATE) or (
                    number.__class__ is int and number >= 0 and (text == LATE or number <= 2)))

    def test_values_of_any_kind(self):
        states = (((), 0),)
        for value in STRANGE + (("floor",), ("floor", None, (), ()), ["floor", None, (), ()], ("floor", None, states, ()),
                                ("floor", 0, states, ((), ())), ("floor", None, states * 2, ()), ("floor", None, [((), 0)], ()),
                                (["floor"], None, (), ()), ((),) * 4, ("floor", None, ((("a",), 0),), ()),
                                ("floor", None, states, ((((), ()),),)), ("floor", None, states, (([], ()),)),
                                ("floor", None, states, (((["A"],), ()),)), ("floor", None, states, (((None,), ()),))):
            self.floor(Family(EARLY), value, False)
        self.floor(Family(""), ("floor", None, (((), 0),), (((), ()),)), False)

    def test_each_single_change(self):
        family = Family("shared s; class A { init { super; call m; } final method m { if s { look a; } else { } } }")
        floor = judge(family).floor
        for path in places_in(floor):
            if path == () or len(path) > 5 and path[1] != 1:
                continue
            old = part_at(floor, path)
            for part in (True, None, -1, [], (), "x", 10 ** 29):
                if part != old or part.__class__ is not old.__class__:
                    thing = replaced(floor, path, part)
                    self.assertIs(is_floor(family, thing), holds(family, thing), (path, part))

    def test_changes_by_chance(self):
        rng = random.Random(22)
        answers = []
        for _ in range(100):
            family = Drawer(rng, names=rng.choice(["a", "ab"]), methods=rng.choice(["", "m"]), looks=0.4).family(rng.choice([1, 1, 2]))
            sealed = [key for key in family.all_keys() if rng.random() < 0.15]
            floor = judge(family, sealed=sealed).floor
            for _ in range(8):
                thing = changed(rng, floor)
                answers.append(is_floor(family, thing, sealed=sealed))
                self.assertIs(answers[-1], holds(family, thing, sealed), (str(family), thing))
            for _ in range(8):
                thing = self.other(rng, floor, family)
                answers.append(is_floor(family, thing, sealed=sealed))
                self.assertIs(answers[-1], holds(family, thing, sealed), (str(family), thing))
        self.assertTrue(answers.count(True) > 200 and answers.count(False) > 500, answers.count(True))

    def other(self, rng, floor, family):
        """A floor of the right form in which something is changed."""
        number, states, tables = thawed(floor)
        world, rows = rng.choice(tables)
        row = rng.choice(rows) if rows else [0, "init", (), (), (), None]
        own, shared = rng.choice(parts_of(family.names)), rng.choice(parts_of(family.shared))
        kind = rng.randrange(9)
        if kind == 0 and row[4]:
            at = rng.randrange(len(row[4]))
            row[4] = replaced(row[4], (at, 3), rng.choice([0, max(0, row[4][at][3] - 1), row[4][at][3] + 1]))
        elif kind == 1:
            row[4] = row[4] + ((rng.choice(["end", "failed"]), own, shared, rng.randint(0, 3)),)
        elif kind == 2:
            row[5] = rng.choice([None, 0, 1, 2, 5])
        elif kind == 3 and rows:
            rows.remove(row)
        elif kind == 4:
            states.append([shared, rng.randint(0, 2)])
        elif kind == 5:
            number = rng.choice([None, 0, 1, 2])
        elif kind == 6:
            for row in [row for world, rows in tables for row in rows]:
                row[4], row[5] = tuple([end[:3] + (0,) for end in row[4]]), row[5] and 0
            number = number and 0
        else:
            world = rng.choice([table[0] for table in tables] + list(family.classes))
            places = [-1, -2] + list(range(len(world) + 1)) + list(world) if isinstance(world, tuple) else list(family.order(world)) + [0, -1]
            ends = [(kind, own, shared, 0) for kind in ("end", "failed") for own in parts_of(family.names) for shared in parts_of(family.shared)]
            row = [rng.choice(places), rng.choice(family.all_keys()), own, shared, tuple(ends), rng.choice([None, 0])]
            known = [rows for name, rows in tables if name == world]
            if known:
                known[0].append(row)
            else:
                tables.append([world, [row]])
        return frozen(number, states, tables)

    def test_of_other_sealed_keys(self):
        family = Family(EARLY)
        for ours, theirs, expected in (([], ["init"], False), (["init"], [], False), (["init"], ["init", "setter q"], True),
                                       (["method m"], [], False)):
            self.floor(family, judge(family, sealed=ours).floor, expected, theirs)
        self.assertIs(is_floor(family=family, thing=judge(family).floor, sealed=()), True)

    def test_errors(self):
        for check in (is_floor, is_derivation):
            for value in STRANGE:
                if value != "init":
                    self.fails(lambda: check(Family(EARLY), None, sealed=["init", value]), BadKey, key=value)
            self.fails(lambda: check(Family("class A { value a, b, c, d, e, f; }"), None), TooMany, what="names")
            self.fails(lambda: check(Family("class A { value a, b, c, d, e, f; }"), None, sealed=["x"]), BadKey, key="x")


class DerivationTest(Case):
    def seen(self, family, thing, expected, sealed=()):
        """A value is a derivation or none, as the plain check says, too."""
        self.assertIs(number_seen(family, thing, sealed) is not None, expected, thing)
        self.assertIs(is_derivation(family, thing, sealed=sealed), expected, thing)

    def test_written_by_hand(self):
        family = Family("class A { promise init: b; init { keep a; look b; } }")
        gap = ("gap", "b", "A", "init", (1,))
        rows = ((("A",), "A", "init", (), (), gap, 2), (("A",), 0, "init", (), (), gap, 2), (("A",), -2, "init", (), (), gap, 2))
        self.seen(family, ("seen", rows, (2,)), True)
        self.seen(family, ("seen", rows + rows, (5,)), True)
        self.seen(family, ("seen", (rows[0], rows[0], rows[1], rows[2]), (3,)), True)
        for wrong in ((rows, ()), (rows, (1,)), (rows, (0,)), (rows, (3,)), (rows, (-1,)), (rows, (True,)), (rows, (2, 2)),
                      (rows, [2]), (list(rows), (2,)), (rows, ("2",)), (rows, (None,)), (rows, ((2,),)), (rows[::-1], (0,)),
                      (rows[1:], (1,)), ((rows[0], rows[2]), (1,)), ((), ()), ((), (0,))):
            self.seen(family, ("seen",) + wrong, False)
        for index in range(3):
            for cost, expected in ((1, False), (2, True), (3, index == 2), (10 ** 29, index == 2), (0, False), (True, False),
                                   (-1, False), ("2", False), (None, False)):
                self.seen(family, ("seen", replaced(rows, (index, 6), cost), (2,)), expected)
        # With higher costs all the way.
        self.seen(family, ("seen", tuple([row[:6] + (at + 5,) for at, row in enumerate(rows)]), (2,)), True)
        for other in (("gap", "b", "A", "init", (True,)), ("gap", "b", "A", "init", [1]), ("gap", "b", "A", "init", (0,)),
                      ("gap", "a", "A", "init", (1,)), ("gap", "b", 0, "init", ()), ("gap", "b", -1, "init", ()),
                      ("gap", "b", None, "init", (1,)), ("gap", "b", "A", "init"), ("end", (), ())):
            self.seen(family, ("seen", tuple([row[:5] + (other, 2) for row in rows]), (2,)), False)

    def test_gaps_in_actions_of_heirs_and_of_the_user(self):
        family = Family("class A { promise init: b; promise method m: b; final init { } }")
        for where, place, key in ((("gap", "b", -1, "init", ()), -1, "init"), (("gap", "b", 0, "method m", ()), 0, "method m")):
            rows = [(("A",), place, key, (), (), where, 0), (("A",), "A", "init", (), (), ("end", (), ()), 0)]
            if place == 0:
                rows.append((("A",), -1, "init", (), (), where, 0))
            rows.append((("A",), -2, "init", (), (), where, 0))
            self.seen(family, ("seen", tuple(rows), (len(rows) - 1,)), True)
            self.seen(family, ("seen", tuple(rows), (len(rows) - 1,)), place != 0, ["method m"])
            for index in range(len(rows) - 1):
                self.seen(family, ("seen", tuple(rows[:index] + rows[index + 1:]), (len(rows) - 2,)), False)
            wrong = [row[:5] + (replaced(row[5], (2,), place == 0),) + row[6:] if row[5][0] == "gap" else row for row in rows]
            self.seen(family, ("seen", tuple(wrong), (len(rows) - 1,)), False)

    def test_the_user_never_fails(self):
        family = Family("class A { promise init: b; final init { } }")
        self.seen(family, ("seen", ((("A",), -1, "init", (), (), ("end", (), ()), 0),), ()), False)
        gap = ("gap", "b", -1, "init", ())
        rows = ((("A",), "A", "init", (), (), ("end", (), ()), 0), (("A",), -1, "init", (), (), gap, 0), (("A",), -2, "init", (), (), gap, 0))
        self.seen(family, ("seen", rows, (2,)), True)
        for kind, expected in (("end", True), ("failed", False)):
            self.seen(family, ("seen", rows + ((("A",), -1, "init", (), (), (kind, (), ()), 0),), (2,)), expected)
            self.seen(family, ("seen", rows + ((("A",), 0, "method m", (), (), (kind, (), ()), 0),), (2,)), False)

    def test_lives_one_after_another(self):
        family = Family("shared s, t; class A { final init { if s { if t { } else { look q; } } else { keep t; } } final setter s { } }")
        verdict = judge(family)
        word, rows, lives = verdict.derivation
        self.seen(family, verdict.derivation, True)
        self.assertEqual(len(lives), 2)
        for wrong in (lives[::-1], lives[:1], lives[1:], lives[:1] + lives, lives + lives[1:], (lives[0], lives[0]), lives + lives):
            self.seen(family, (word, rows, wrong), False)
        # A life from no shared names to no shared names may come first, also twice.
        row = ((), -2, "init", (), (), ("end", (), ()), 0)
        more = (((), -1, "init", (), (), ("end", (), ()), 0), ((), 0, "init", (), (), ("end", (), ()), 0), row)
        self.seen(family, (word, rows + more, (len(rows) + 2, len(rows) + 2) + lives), True)
        for own in (("q",), ("s",), [], None):
            self.seen(family, (word, replaced(rows, (lives[0], 3), own), lives), False)
        self.seen(family, (word, replaced(rows, (lives[0], 0), "A"), lives), False)

    def test_values_of_any_kind(self):
        for value in STRANGE + (("seen",), ("seen", (), ()), ("seen", (), (0,)), ["seen", (), ()], ("seen", [], ()), (["seen"], (), ()), ((), (), ()),
                                ("seen", ((),), (0,)), ("seen", ((None,) * 7,), (0,)), ("seen", (("A", "A", "init", (), (), (), 1),), (0,)),
                                ("seen", ((([],), 0, "init", (), (), ("end", (), ()), 1),), (0,)),
                                ("seen", (((), -2, "init", (), (), ("end", (), ()), 1),), (0,))):
            self.seen(Family(EARLY), value, False)
        self.seen(Family(EARLY), judge(Family(LATE)).floor, False)

    def test_each_single_change(self):
        for text in (EARLY, "shared s; class A { promise method m: b; init { call m; set s; super; } setter s { keep s; fail; } }"):
            family = Family(text)
            derivation = judge(family).derivation
            for path in places_in(derivation)[1:]:
                old = part_at(derivation, path)
                for part in OTHERS:
                    if part != old or part.__class__ is not old.__class__:
                        thing = replaced(derivation, path, part)
                        self.assertIs(is_derivation(family, thing), number_seen(family, thing) is not None, (path, part))

    def test_changes_by_chance(self):
        rng = random.Random(23)
        answers = []
        while len(answers) < 900:
            family = Drawer(rng, names=rng.choice(["a", "ab"]), methods=rng.choice(["", "m"]), looks=0.6).family(rng.choice([1, 1, 2]))
            sealed = [key for key in family.all_keys() if rng.random() < 0.15]
            derivation = judge(family, sealed=sealed).derivation
            for _ in range(10 if derivation is not None else 0):
                for thing in (changed(rng, derivation), self.other(rng, derivation, family)):
                    answers.append(is_derivation(family, thing, sealed=sealed))
                    self.assertIs(answers[-1], number_seen(family, thing, sealed) is not None, (str(family), thing))
        self.assertTrue(answers.count(True) > 150 and answers.count(False) > 300, answers.count(True))

    def other(self, rng, derivation, family):
        """A derivation of the right form in which something is changed."""
        word, rows, lives = derivation
        rows, at = list(rows), rng.randrange(len(rows))
        row, kind = rows[at], rng.randrange(6)
        if kind == 0:
            rows[at] = row[:6] + (max(0, row[6] + rng.choice([-1, 1, 2])),)
        elif kind == 1:
            rows.append(row)
        elif kind == 2:
            other = rng.randrange(len(rows))
            rows[at], rows[other] = rows[other], row
        elif kind == 3:
            rows[at] = row[:3] + (rng.choice(parts_of(family.names)),) + row[4:]
        elif kind == 4:
            rows[at] = row[:5] + (rng.choice(rows)[5],) + row[6:]
        else:
            rows.append(row[:5] + ((rng.choice(["end", "failed"]), row[3], row[4]), rng.randint(0, 4)))
        return word, tuple(rows), lives

    def test_of_other_sealed_keys(self):
        family = Family(EARLY)
        derivation = judge(family).derivation
        self.seen(family, derivation, False, ["init"])
        self.seen(family, derivation, False, ["method m"])
        self.seen(family, derivation, True, ["getter a", "getter a"])
        self.assertIs(is_derivation(family=family, thing=derivation, sealed=[]), True)
