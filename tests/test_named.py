"""The interface once more: all parameters by name, by position, and which of them are passed by name only."""

import inspect
import unittest

from earlyfields import checking, ends, engine, errors, families, judging, makings, moves, orders, reliance, seals, stories, texts, watchers

# Each function, class and method with its parameters; those behind * are passed by name only.
SIGNATURES = {
    texts.is_word: "value", texts.is_key: "value", texts.read_steps: "text", texts.write_steps: "body",
    families.Family: "text", families.Extension: "family text", orders.old_orders: "family", orders.is_old_order: "family thing",
    orders.heir_of: "family order", engine.Maker: "family * limit shared", stories.tell: "family story picks * limit",
    stories.is_lawful: "family story", ends.Ends: "family owner * shared", judging.judge: "family * sealed",
    checking.is_floor: "family thing * sealed", checking.is_derivation: "family thing * sealed", reliance.sure: "family owner * sealed",
    reliance.early: "family owner * sealed", seals.least_seals: "family", seals.least_shows: "family", moves.moved: "family changes",
    moves.least_move: "family * sealed", makings.safe_sequences: "family classes", makings.first_safe: "family classes",
    makings.Sequence: "family classes",
}
METHODS = {
    families.Family: {
        "order": "name", "bases": "name", "birth": "name", "class_values": "name", "own_keys": "name", "grade": "name key", "body": "name key",
        "found": "name key", "after": "name owner key", "promise": "name key", "all_keys": "", "promised": "name key names", "extended": "text"},
    families.Extension: {"old_order": "name", "heir_text": ""},
    watchers.Watcher: {"note": "event"}, watchers.Tally: {"note": "event", "count_of": "word"}, watchers.Places: {"note": "event", "listed": ""},
    watchers.Report: {"note": "event"},
    engine.Maker: {"change": "limit", "watch": "watcher", "make": "owner picks", "use": "deed picks", "walk": ""},
    stories.Run: {"old_steps": "classes"}, ends.Ends: {"listed": "", "steps_to": "end", "picks_to": "end"},
}
ATTRIBUTES = {
    judging.Verdict: "steps floor derivation extension story picks", moves.Move: "changes family inversions", makings.Sequence: "at picks steps",
    stories.Run: "outcome at gap events steps failed own shared",
}
FAMILY = families.Family("class A { init { super; set a; } method m { look a; } }")


def parameters(call):
    """The parameters of a function, a method or a class, as they are written above."""
    words, named = [], False
    for name, row in inspect.signature(call).parameters.items():
        if row.kind is row.KEYWORD_ONLY and not named:
            words.append("*")
            named = True
        if name != "self":
            words.append(name)
    return " ".join(words)


class NamedTest(unittest.TestCase):
    def test_functions_and_classes(self):
        for call, words in SIGNATURES.items():
            self.assertEqual(parameters(call), words, call)

    def test_methods(self):
        for kind, methods in METHODS.items():
            for name, words in methods.items():
                self.assertEqual(parameters(vars(kind)[name]), words, (kind, name))

    def test_watchers_are_made_of_nothing(self):
        for kind in (watchers.Watcher, watchers.Tally, watchers.Places, watchers.Report):
            self.assertEqual(kind().many, 0)

    def test_errors(self):
        fields = {"BadText": "at", "TooMany": "what", "Twice": "name", "NoClass": "name", "NoOrder": "name", "NotABase": "owner key path",
                  "Final": "name key", "NotChained": "name key", "NotLawful": "owner key path", "BadKey": "key", "BadName": "name",
                  "BadOrder": "value",
                  "BadDeed": "at", "BadLimit": "value", "Far": "steps", "Gap": "name owner key path", "Long": "most", "NoEnd": "end"}
        for name, words in fields.items():
            given = {word: (word,) for word in words.split()}
            self.assertEqual(vars(vars(errors)[name](**given)), given)

    def test_attributes_are_set_when_an_object_is_created(self):
        objects = {judging.Verdict: judging.judge(FAMILY), moves.Move: moves.least_move(FAMILY), makings.Sequence: makings.Sequence(FAMILY, ["A"]),
                   stories.Run: stories.tell(FAMILY, [])}
        for kind, words in ATTRIBUTES.items():
            self.assertLessEqual(set(words.split()), set(vars(objects[kind])))

    def test_all_of_stages_4_to_10_by_name(self):
        verdict = judging.judge(family=FAMILY, sealed=("method n",))
        self.assertIs(checking.is_floor(family=FAMILY, thing=verdict.floor, sealed=("method n",)), True)
        self.assertIs(checking.is_derivation(family=FAMILY, thing=verdict.derivation, sealed=["method n"]), True)
        rows = ends.Ends(family=FAMILY, owner="A", shared=[])
        self.assertEqual((rows.steps_to(end=("made", ("a",), ())), rows.picks_to(end=("made", ("a",), ()))), (2, []))
        self.assertEqual(reliance.sure(family=FAMILY, owner="A", sealed=[]), {"init": ("a",), "method m": ()})
        self.assertEqual(reliance.early(family=FAMILY, owner="A", sealed=["init"]), [])
        self.assertEqual((seals.least_seals(family=FAMILY), seals.least_shows(family=FAMILY)), ([("init",)], [("init",)]))
        self.assertEqual(moves.least_move(family=FAMILY, sealed=()).family, moves.moved(family=FAMILY, changes={"A": (1, 0)}))
        self.assertEqual(makings.safe_sequences(family=FAMILY, classes=["A"]), [makings.first_safe(family=FAMILY, classes=("A",))])
        self.assertIs(bool(makings.Sequence(family=FAMILY, classes=[])), True)

    def test_what_is_behind_the_star_is_passed_by_name_only(self):
        for call in (lambda: judging.judge(FAMILY, ()), lambda: ends.Ends(FAMILY, "A", ()), lambda: checking.is_floor(FAMILY, None, ()),
                     lambda: checking.is_derivation(FAMILY, None, ()), lambda: reliance.sure(FAMILY, "A", ()),
                     lambda: reliance.early(FAMILY, "A", ()),
                     lambda: moves.least_move(FAMILY, ())):
            with self.assertRaises(TypeError):
                call()
