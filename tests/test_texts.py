from earlyfields.errors import BadText
from earlyfields.texts import is_key, is_word, read_steps, write_steps
from tests.helpers import STRANGE, Case

RESERVED = (
    "class shared promise value init method getter setter chained final set keep read look call super "
    "of make fail try catch if else either or loop"
).split()


def nested(deep, inside=""):
    """Loops, as deep as told."""
    return "loop { " * deep + inside + " }" * deep


class WordsTest(Case):
    def test_one_to_eight_small_letters_are_a_word(self):
        for word in ("a", "z", "ab", "abcdefg", "abcdefgh", "zzzzzzzz", "ors", "sets", "inits", "methods"):
            self.assertIs(is_word(word), True, word)

    def test_nine_letters_and_none_are_no_word(self):
        self.assertIs(is_word("abcdefghi"), False)
        self.assertIs(is_word("a" * 30000), False)
        self.assertIs(is_word(""), False)

    def test_reserved_words_are_no_words(self):
        self.assertEqual(len(RESERVED), 26)
        for word in RESERVED:
            self.assertIs(is_word(word), False, word)

    def test_other_characters_are_no_part_of_a_word(self):
        for text in ("A", "Ab", "aB", "a1", "1", "a_b", "a ", " a", "a\n", "a\tb", "a-b", "\u00e4", "a\u00e9", "\u0430"):
            self.assertIs(is_word(text), False, text)

    def test_what_is_no_string_is_no_word(self):
        for value in STRANGE + (b"a", ["a"], ("a",), {"a": 1}):
            self.assertIs(is_word(value), False, value)

    def test_by_name(self):
        self.assertIs(is_word(value="a"), True)
        self.assertIs(is_key(value="init"), True)


class KeysTest(Case):
    def test_keys(self):
        for key in ("init", "method a", "getter a", "setter a", "method abcdefgh", "setter zz"):
            self.assertIs(is_key(key), True, key)

    def test_other_heads(self):
        for text in ("call a", "Method a", "methods a", "a", "init a", "value a", "promise a", "metho a", "a method"):
            self.assertIs(is_key(text), False, text)

    def test_blanks(self):
        for text in ("method  a", "method a ", " method a", "method\na", "methoda", "method ", " init", "init ", "init\n"):
            self.assertIs(is_key(text), False, text)

    def test_no_word(self):
        for text in ("method", "getter", "setter", "method set", "getter init", "setter A", "method a b",
                     "method abcdefghi", "getter a1", "setter a;", "getter or"):
            self.assertIs(is_key(text), False, text)

    def test_what_is_no_string_is_no_key(self):
        for value in STRANGE + (b"init", ["init"], ("method", "a"), ("init",)):
            self.assertIs(is_key(value), False, value)


class ReadStepsTest(Case):
    def test_each_kind_of_step(self):
        for text, step in (
            ("set a;", ("set", "a")),
            ("keep abcdefgh;", ("keep", "abcdefgh")),
            ("read c;", ("read", "c")),
            ("look d;", ("look", "d")),
            ("call m;", ("call", "m")),
            ("of A;", ("of", "A")),
            ("make Abcdefgh;", ("make", "Abcdefgh")),
            ("super;", ("super",)),
            ("fail;", ("fail",)),
            ("loop { }", ("loop", ())),
            ("loop { fail; super; }", ("loop", (("fail",), ("super",)))),
            ("if a { } else { }", ("if", "a", (), ())),
            ("if a { fail; } else { super; }", ("if", "a", (("fail",),), (("super",),))),
            ("try { fail; } catch { }", ("try", (("fail",),), ())),
            ("try { } catch { fail; }", ("try", (), (("fail",),))),
            ("either { } or { }", ("either", ((), ()))),
            ("either { fail; } or { } or { super; }", ("either", ((("fail",),), (), (("super",),)))),
        ):
            self.assertEqual(read_steps(text), (step,), text)
            self.assertEqual(write_steps((step,)), text)

    def test_the_example(self):
        self.assertEqual(
            read_steps("set a; if b { } else { call m; fail; }"),
            (("set", "a"), ("if", "b", (), (("call", "m"), ("fail",)))))

    def test_an_empty_body(self):
        for text in ("", " ", "\n", " \n \n"):
            self.assertEqual(read_steps(text), ())

    def test_no_blanks_where_none_are_needed(self):
        self.assertEqual(
            read_steps("set a;loop{super;fail;}either{}or{}or{look b;}try{}catch{}if c{}else{of A;}"),
            (("set", "a"), ("loop", (("super",), ("fail",))), ("either", ((), (), (("look", "b"),))),
             ("try", (), ()), ("if", "c", (), (("of", "A"),))))

    def test_blanks_and_line_feeds_everywhere(self):
        text = "\n if \n a\n{ \n\nset  b ; }\n else{ } \nloop\n\n{\n}  "
        self.assertEqual(read_steps(text), (("if", "a", (("set", "b"),), ()), ("loop", ())))

    def test_a_word_may_be_a_name_and_a_method(self):
        self.assertEqual(read_steps("set a; call a;"), (("set", "a"), ("call", "a")))

    def test_by_name(self):
        self.assertEqual(read_steps(text="fail;"), (("fail",),))
        self.assertEqual(write_steps(body=(("fail",),)), "fail;")

    def test_many_steps(self):
        body = read_steps("fail;" * 8000)
        self.assertEqual(body, (("fail",),) * 8000)
        self.assertEqual(write_steps(body), " ".join(["fail;"] * 8000))


class BadTextTest(Case):
    def stops(self, text, at):
        """The text is an error at this position, also with more text behind it."""
        self.fails(lambda: read_steps(text), BadText, at=at)
        if at < len(text):
            self.fails(lambda: read_steps("fail; \n" + text + " fail;"), BadText, at=at + 7)

    def test_no_string(self):
        for value in STRANGE:
            if not isinstance(value, str):
                self.fails(lambda: read_steps(value), BadText, at=-1)
        self.fails(lambda: read_steps(b"fail;"), BadText, at=-1)

    def test_a_character_that_fits_nowhere(self):
        for text, at in (
            ("1", 0), ("set a1;", 5), ("set a; \t", 7), ("set\ta;", 3), ("fail;\r\n", 5), ("set _a;", 4),
            ("set a.b;", 5), ("fail; # x", 6), ("set \u00e4;", 4), ("set a\u00e4;", 5), ("\ufefffail;", 0), ("fail;;", 5),
        ):
            self.stops(text, at)

    def test_a_token_that_does_not_fit(self):
        for text, at in (
            ("a;", 0), ("set set;", 4), ("set A;", 4), ("set abcdefghi;", 4), ("set;", 3), ("set a b;", 6),
            ("set a, b;", 5), ("call M;", 5), ("of a;", 3), ("of AB;", 3), ("of Abcdefghi;", 3), ("make aB;", 5),
            ("make init;", 5), ("super a;", 6), ("fail { }", 5), ("Set a;", 0), ("seta;", 0), ("set a }", 6),
            ("loop fail;", 5), ("loop ( )", 5), ("loop { ) }", 7), ("loop a { }", 5), ("if { } else { }", 3),
            ("if A { } else { }", 3), ("if a fail; else { }", 5), ("if a { } else fail;", 14), ("try a { } catch { }", 4),
            ("either { } or fail;", 14), ("either a { } or { }", 7), ("or { }", 0), ("else { }", 0), ("catch { }", 0),
            ("class", 0), ("init { }", 0), ("{ }", 0), ("method m { }", 0), ("value a;", 0),
            ("try { } or { }", 8), ("either { } else { }", 11), ("if a { } catch { }", 9),
            ("either { } or { } or or { }", 21),
        ):
            self.stops(text, at)

    def test_a_token_more_at_the_end(self):
        for text, at in (("}", 0), ("fail; }", 6), ("loop { } }", 9), ("fail;\n\n;", 7), ("set a; a", 7),
                         ("either { } or { } else { }", 18), ("if a { } else { } else { }", 18),
                         ("try { } catch { } catch { }", 18)):
            self.stops(text, at)

    def test_else_catch_and_or_left_out(self):
        for text, at in (("if a { } fail;", 9), ("try { } fail;", 8), ("either { } fail;", 11),
                         ("loop { if a { } }", 16), ("loop { try { } }", 15), ("loop { either { } }", 18)):
            self.stops(text, at)
        for text in ("if a { }", "try { }", "either { }", "either { } or { } or"):
            self.stops(text, len(text))

    def test_a_text_that_ends_too_early(self):
        for text in ("set", "set a", "of", "of A", "super", "fail", "loop", "loop {", "loop { fail;", "if", "if a",
                     "if a {", "if a { } else", "if a { } else {", "try", "try {", "try { } catch", "either",
                     "either { } or", "either { } or {", "loop { set"):
            self.stops(text, len(text))
            self.stops(text + "  \n ", len(text) + 4)
        self.fails(lambda: read_steps("set a"), BadText, at=5)


class DepthTest(Case):
    def test_six_deep(self):
        body = read_steps(nested(6, "fail;"))
        for _ in range(6):
            self.assertEqual(body[0][0], "loop")
            body = body[0][1]
        self.assertEqual(body, (("fail",),))

    def test_the_brace_of_the_seventh_block_does_not_fit(self):
        text = nested(7)
        self.fails(lambda: read_steps(text), BadText, at=7 * 6 + 5)
        six = nested(6, "?").split("?")[0]
        for step, brace in (("loop  {", 6), ("if a {", 5), ("try {", 4), ("either {", 7)):
            self.fails(lambda: read_steps(six + step), BadText, at=len(six) + brace)
            self.fails(lambda: read_steps(six + step + " } } } } }"), BadText, at=len(six) + brace)

    def test_the_word_ahead_of_the_seventh_block_fits(self):
        six = nested(6, "?").split("?")[0]
        for step in ("loop ", "if a", "try\n", "either", "if"):
            self.fails(lambda: read_steps(six + step), BadText, at=len(six + step))

    def test_each_kind_of_block_counts(self):
        six = "either { } or { try { } catch { if a { } else { try { if a { loop { "
        self.fails(lambda: read_steps(six + "loop { "), BadText, at=len(six) + 5)
        self.fails(lambda: read_steps(six), BadText, at=len(six))

    def test_blocks_beside_one_another_are_not_deeper(self):
        text = nested(5, "if a { } else { } try { } catch { } either { } or { } or { } loop { }")
        self.assertEqual(write_steps(read_steps(text + " " + text)), text + " " + text)


class WriteStepsTest(Case):
    def test_the_example(self):
        self.assertEqual(write_steps((("loop", (("keep", "a"),)), ("super",))), "loop { keep a; } super;")

    def test_an_empty_body(self):
        self.assertEqual(write_steps(()), "")

    def test_blocks(self):
        text = "either{if a{super;fail;}else{}}or{try{}catch{set a;}}or{}loop{}"
        wide = "either { if a { super; fail; } else { } } or { try { } catch { set a; } } or { } loop { }"
        self.assertEqual(write_steps(read_steps(text)), wide)

    def test_the_canonical_text_read_again(self):
        for text in ("", "set a;fail ; ", "loop{loop{loop{loop{loop{loop{look a;}}}}}}",
                     "if a{of A;make B;}else{try{call m;}catch{keep b;}}either{}or{read a;}or{super;}"):
            body = read_steps(text)
            self.assertEqual(read_steps(write_steps(body)), body)
            self.assertEqual(write_steps(read_steps(write_steps(body))), write_steps(body))

    def test_the_body_is_not_changed_and_results_are_equal(self):
        body = (("either", ((), (("set", "a"),))),)
        self.assertEqual(write_steps(body), write_steps(body))
        self.assertEqual(body, (("either", ((), (("set", "a"),))),))
