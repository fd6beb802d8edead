"""Watchers: each class alone, several at one maker, one twice, one at two makers."""

from earlyfields.engine import Maker
from earlyfields.families import Family
from earlyfields.watchers import Places, Report, Tally, Watcher
from tests.helpers import Case, result_of

TEXT = """
    class A { init { super; keep a; call m; call m; } method m { keep b; keep c; } method bad { call bad; } }
    class B(A) { init { super; keep d; } method m { super; look z; } }
"""
WORDS = ("super", "keep", "call", "keep", "keep", "call", "keep", "keep")


def event(word, owner="A", key="init", number=0, path=(0,)):
    """An event with this word."""
    return (number, owner, key, path, word)


class Keeper(Watcher):
    """A watcher of a test's own that notes in a list what it is told, with what a maker says then."""

    def __init__(self, rows, name, maker=None):
        super().__init__()
        self.rows, self.name, self.maker = rows, name, maker

    def note(self, event):
        super().note(event)
        if self.maker is None:
            self.rows.append((self.name, event[4]))
        else:
            self.rows.append((event[4], self.maker.current_own, self.maker.current_shared, self.maker.event_count))


class WatcherTest(Case):
    def test_alone(self):
        for kind in (Watcher, Tally, Places, Report):
            watcher = kind()
            self.assertEqual(watcher.many, 0)
            for many in range(1, 4):
                self.assertIsNone(watcher.note(event("set")))
                self.assertEqual(watcher.many, many)
            self.assertIsNone(watcher.note(event=event("set")))
            self.assertEqual(vars(watcher)["many"], 4)

    def test_the_bases(self):
        self.assertEqual(Report.__bases__, (Tally, Places))
        self.assertEqual((Tally.__bases__, Places.__bases__), ((Watcher,), (Watcher,)))
        for kind in (Watcher, Tally, Places, Report):
            self.assertIn("note", vars(kind))

    def test_two_watchers_share_nothing(self):
        one, two = Report(), Report()
        one.note(event("set"))
        self.assertEqual((two.many, two.count_of("set"), two.listed(), str(two)), (0, 0, [], ""))
        self.assertFalse(one == two)

    def test_a_watcher_of_a_class_between(self):
        class Both(Places, Tally):
            pass

        both = Both()
        both.note(event("set"))
        self.assertEqual((both.many, both.count_of("set"), both.listed()), (1, 1, [("A", "init")]))


class TallyTest(Case):
    def test_count_of(self):
        for kind in (Tally, Report):
            tally = kind()
            for word in ("set", "keep", "set", "fail"):
                tally.note(event(word))
            self.assertEqual([tally.count_of(word) for word in ("set", "keep", "fail", "look", "")], [2, 1, 1, 0, 0])
            self.assertEqual(tally.count_of(word="set"), 2)
            self.assertEqual(tally.many, 4)

    def test_the_table(self):
        for kind in (Tally, Report):
            tally = kind()
            self.assertEqual(str(tally), "")
            for word in ("set", "either", "of", "either", "if", "super"):
                tally.note(event(word))
            self.assertEqual(str(tally), "either      2\nif          1\nof          1\nset         1\nsuper       1")

    def test_asking_for_a_word_does_not_make_a_line(self):
        tally = Tally()
        tally.count_of("set")
        self.assertEqual(str(tally), "")

    def test_words_of_every_length(self):
        for many in range(1, 13):
            tally = Tally()
            tally.note(event("x" * many))
            self.assertEqual(str(tally), "x" * many + " " * max(0, 8 - many) + "    1")

    def test_counts_of_up_to_six_digits(self):
        tally = Tally()
        told = 0
        for many, column in ((1, "    1"), (9, "    9"), (10, "   10"), (99, "   99"), (100, "  100"), (999, "  999"), (1000, " 1000"),
                             (9999, " 9999"), (10000, "10000"), (99999, "99999"), (100000, "100000")):
            for _ in range(many - told):
                tally.note(event("keep"))
            told = many
            self.assertEqual(str(tally), "keep    " + column)
            self.assertEqual((tally.many, tally.count_of("keep")), (many, many))


class PlacesTest(Case):
    def test_listed(self):
        for kind in (Places, Report):
            places = kind()
            self.assertEqual(places.listed(), [])
            for owner, key, number, path, word in (
                ("B", "init", 0, (0,), "super"), ("A", "init", 0, (0,), "keep"), ("A", "method m", 1, (0, 1), "keep"),
                ("B", "init", 1, (1,), "set"), ("A", "init", 5, (2,), "keep"), ("A", "getter m", 0, (0,), "look"),
            ):
                places.note(event(word, owner, key, number, path))
            self.assertEqual(places.listed(), [("B", "init"), ("A", "init"), ("A", "method m"), ("A", "getter m")])
            self.assertEqual(places.many, 6)

    def test_the_list_is_new(self):
        places = Places()
        places.note(event("set"))
        places.listed().append("x")
        self.assertEqual(places.listed(), [("A", "init")])


class WatchTest(Case):
    def setUp(self):
        self.maker = Maker(Family(TEXT))

    def test_from_now_on(self):
        self.maker.make("A")
        report = Report()
        self.assertIsNone(self.maker.watch(report))
        self.assertEqual(report.many, 0)
        self.maker.make("A")
        self.assertEqual(report.many, 8)
        self.assertEqual(str(report), "call        2\nkeep        5\nsuper       1")
        self.assertEqual(report.listed(), [("A", "init"), ("A", "method m")])
        self.maker.use(("call", "m"))
        self.assertEqual((report.many, report.count_of("keep")), (10, 7))

    def test_each_class(self):
        for kind in (Watcher, Tally, Places, Report):
            watcher = kind()
            self.maker.watch(watcher=watcher)
            self.maker.make("A")
            self.assertEqual(watcher.many, 8)

    def test_several_in_the_order_in_which_they_were_added(self):
        rows = []
        for name in ("x", "y", "x", "z"):
            self.maker.watch(Keeper(rows, name))
        self.maker.make("A")
        self.assertEqual(rows, [(name, word) for word in WORDS for name in ("x", "y", "x", "z")])

    def test_one_twice_with_one_between(self):
        rows = []
        one, two = Keeper(rows, "x"), Keeper(rows, "y")
        for watcher in (one, two, one):
            self.maker.watch(watcher)
        self.maker.make("A")
        self.assertEqual(rows, [(name, word) for word in WORDS for name in ("x", "y", "x")])
        self.assertEqual((one.many, two.many), (16, 8))

    def test_what_is_counted_of_an_event_once_and_of_one_twice(self):
        once, twice = Report(), Report()
        for watcher in (twice, once, twice):
            self.maker.watch(watcher)
        self.maker.make("A")
        self.assertEqual((once.many, once.count_of("keep"), once.listed()), (8, 5, [("A", "init"), ("A", "method m")]))
        self.assertEqual((twice.many, twice.count_of("keep"), twice.listed()), (16, 10, [("A", "init"), ("A", "method m")]))

    def test_one_at_two_makers(self):
        report = Report()
        other = Maker(Family("class Z { init { fail; } }"))
        for maker in (self.maker, other):
            maker.watch(report)
        self.maker.make("A")
        other.make("Z")
        self.assertEqual(report.many, 9)
        self.assertEqual(report.listed(), [("A", "init"), ("A", "method m"), ("Z", "init")])
        self.assertEqual(report.count_of("fail"), 1)

    def test_up_to_a_gap_and_the_limit(self):
        report = Report()
        self.maker.watch(report)
        self.assertEqual(result_of(lambda: self.maker.make("B"))[0], "gap")
        self.assertEqual(report.listed(), [("B", "init"), ("A", "init"), ("B", "method m"), ("A", "method m")])
        self.assertEqual((report.many, report.count_of("look"), self.maker.event_count), (8, 1, 8))
        self.maker.make("A")
        self.assertEqual(result_of(lambda: self.maker.use(("call", "bad"))), ("long", 200))
        self.assertEqual(report.many, 8 + 8 + 200)

    def test_an_event_is_noted_as_its_step_begins(self):
        maker = Maker(Family("shared s; class A { init { keep a; keep s; } method m { keep s; keep b; keep c; } }"))
        rows = []
        maker.watch(Keeper(rows, "x", maker))
        maker.make("A")
        maker.use(("call", "m"))
        self.assertEqual(rows, [("keep", None, (), 1), ("keep", None, (), 2), ("keep", ("a",), ("s",), 3), ("keep", ("a",), ("s",), 4),
                                ("keep", ("a", "b"), ("s",), 5)])

    def test_events_so_far(self):
        maker = self.maker
        rows = []

        class Walker(Watcher):
            def note(self, event):
                rows.append([other[4] for other in maker.walk()])

        maker.watch(Walker())
        maker.make("A")
        self.assertEqual(rows, [list(WORDS[:k]) for k in range(1, 9)])
        self.assertEqual([row[4] for row in maker.walk()], list(WORDS))

    def test_the_event_is_the_one_that_is_walked(self):
        rows = []

        class Collector(Watcher):
            def note(self, event):
                rows.append(event)

        self.maker.watch(Collector())
        self.maker.make("A")
        self.assertEqual(rows, list(self.maker.walk()))

    def test_a_walk_that_begins_as_a_step_does(self):
        maker = self.maker
        walks = []

        class Beginner(Watcher):
            def note(self, event):
                walk = maker.walk()
                next(walk)
                walks.append(walk)

        maker.watch(Beginner())
        maker.make("A")
        self.assertEqual([len(list(walk)) for walk in walks], [0, 1, 2, 3, 4, 5, 6, 7])

    def test_a_watcher_that_adds_one(self):
        maker = self.maker
        added = Watcher()

        class Adder(Watcher):
            def note(self, event):
                if event[4] == "super":
                    maker.watch(added)
                    maker.watch(self)

        maker.watch(Adder())
        maker.make("A")
        self.assertEqual(added.many, 7)

    def test_picks_that_are_changed_later_mean_nothing(self):
        picks = [1, 1]

        class Changer(Watcher):
            def note(self, event):
                picks.clear()

        maker = Maker(Family("class A { init { either { keep a; } or { keep b; } either { keep c; } or { keep d; } } }"))
        maker.watch(Changer())
        maker.make("A", picks)
        self.assertEqual((maker.current_own, picks), (("b", "d"), []))

    def test_a_limit_that_is_changed_within_a_call_holds_for_the_next_one(self):
        maker = self.maker

        class Changer(Watcher):
            def note(self, event):
                maker.limit = 1

        maker.watch(Changer())
        self.assertIs(maker.make("A"), True)
        self.assertEqual(result_of(lambda: maker.make("A")), ("long", 1))
