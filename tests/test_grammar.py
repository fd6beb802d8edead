"""The position of an error, compared with a grammar of points 4 to 6 that is executed in all ways at once."""

import random
import re

from earlyfields.errors import BadText, EarlyError
from earlyfields.families import Extension, Family
from earlyfields.parts import read_family, read_heirs
from earlyfields.texts import read_steps, write_steps
from tests.helpers import Case
from tests.test_texts import RESERVED

# What begins with a capital and has another letter behind it stands for other rows; W is a word, C a class name.
GRAMMAR = {
    "Family": [[], ["Shared", "Family"], ["Class", "Family"]],
    "Heirs": [[], ["Class", "Heirs"]],
    "Shared": [["shared", "Names", ";"]],
    "Names": [["W"], ["W", ",", "Names"]],
    "Class": [["class", "C", "{", "Parts", "}"], ["class", "C", "(", "Bases", ")", "{", "Parts", "}"]],
    "Bases": [["C"], ["C", ",", "Bases"]],
    "Parts": [[], ["value", "Names", ";", "Parts"], ["promise", "Key", ":", "Names", ";", "Parts"],
              ["Grade", "Key", "{", "Body0", "}", "Parts"]],
    "Grade": [[], ["chained"], ["final"]],
    "Key": [["init"], ["method", "W"], ["getter", "W"], ["setter", "W"]],
    "Block6": [],
}
for depth in range(7):
    body, step, block, more = [word + str(depth) for word in ("Body", "Step", "Block", "More")]
    GRAMMAR[body] = [[], [step, body]]
    GRAMMAR[step] = [[word, "W", ";"] for word in ("set", "keep", "read", "look", "call")]
    GRAMMAR[step] += [[word, "C", ";"] for word in ("of", "make")] + [["super", ";"], ["fail", ";"]]
    GRAMMAR[step] += [["loop", block], ["if", "W", block, "else", block], ["try", block, "catch", block],
                      ["either", block, "or", block, more]]
    GRAMMAR[more] = [[], ["or", block, more]]
    if depth < 6:
        GRAMMAR[block] = [["{", "Body" + str(depth + 1), "}"]]


def kinds(token):
    """The signs of the grammar for which a token may stand."""
    if token in RESERVED or token in tuple("{}(),;:"):
        return [token]
    if re.fullmatch("[a-z]{1,8}", token):
        return ["W"]
    if re.fullmatch("[A-Z][a-z]{0,7}", token):
        return ["C"]
    return []


def unfolded(stacks):
    """All stacks with a sign that is no row of the grammar on top, or empty, that come of these."""
    found, left = set(), list(stacks)
    while left:
        stack = left.pop()
        if stack and stack[0] in GRAMMAR:
            left.extend([tuple(row) + stack[1:] for row in GRAMMAR[stack[0]]])
        else:
            found.add(stack)
    return found


def misfit(text, start):
    """The position of the first token with which no text can go on, or None."""
    stacks = unfolded({(start,)})
    for match in re.finditer("[a-zA-Z]+|[^ \n]", text):
        fitting = {stack[1:] for stack in stacks if stack and stack[0] in kinds(match.group())}
        if not fitting:
            return match.start()
        stacks = unfolded(fitting)
    if () in stacks:
        return None
    return len(text)


def grown(rng, start, size):
    """The tokens of a text that the grammar allows."""
    tokens, stack = [], [start]
    while stack:
        top = stack.pop(0)
        if top == "W":
            tokens.append(rng.choice(["a", "b", "m", "abcdefgh"]))
        elif top == "C":
            tokens.append(rng.choice(["A", "B", "Abcdefgh"]))
        elif top in GRAMMAR:
            rows = [row for row in GRAMMAR[top] if "Block6" not in row]
            if len(tokens) + len(stack) > size:
                rows = sorted(rows, key=len)[:2]
            elif rng.random() < 0.7:
                rows = [row for row in rows if row]
            stack = list(rng.choice(rows)) + stack
        else:
            tokens.append(top)
    return tokens


def joined(rng, tokens):
    """A text of the tokens with any blanks that may stand between them."""
    text = rng.choice(["", " ", "\n "])
    for index, token in enumerate(tokens):
        needed = index + 1 < len(tokens) and token[-1].isalpha() and tokens[index + 1][0].isalpha()
        text += token + rng.choice([" ", " ", "\n", " \n "] + ([] if needed else ["", ""]))
    return text


WRONG = list("{}(),;:?1_\t\r-") + ["a", "A", "AB", "Ab", "aB", "abcdefghi", "Abcdefghi", "\u00e4"] + RESERVED


def spoiled(rng, tokens):
    """The tokens with a few changes."""
    tokens = list(tokens)
    for _ in range(rng.choice([0, 1, 1, 2, 3])):
        at = rng.randrange(len(tokens) + 1)
        change = rng.randrange(4)
        if change == 0:
            tokens.insert(at, rng.choice(WRONG))
        elif change == 1:
            tokens[at:at + 1] = [rng.choice(WRONG)]
        elif change == 2:
            del tokens[at:at + 1]
        else:
            del tokens[at:]
    return tokens


def position(read, text):
    """Where a reading stops with BadText, or None."""
    try:
        read(text)
    except BadText as error:
        return error.at
    except EarlyError:
        return None
    return None


class GrammarTest(Case):
    def compare(self, start, read, many, size):
        rng = random.Random(start)
        right = 0
        for _ in range(many):
            text = joined(rng, spoiled(rng, grown(rng, start, rng.randrange(1, size))))
            expected = misfit(text, start)
            right += expected is None
            self.assertEqual(position(read, text), expected, text)
        self.assertTrue(many // 10 < right < many * 9 // 10, right)

    def test_steps(self):
        self.compare("Body0", read_steps, 3000, 60)

    def test_parts_of_a_family(self):
        self.compare("Family", read_family, 2000, 80)

    def test_families(self):
        self.compare("Family", Family, 1000, 80)

    def test_parts_of_heirs(self):
        self.compare("Heirs", read_heirs, 1000, 80)

    def test_extensions(self):
        family = Family("shared a; class Z { }")
        self.compare("Heirs", lambda text: Extension(family, text), 1000, 80)

    def test_each_beginning_of_a_text(self):
        text = ("shared a,b;class A{value a;promise getter b:a;final init{if a{super;}else{either{}or{fail;}or{}}}}\n"
                "class B(A,C){chained method m{loop{loop{loop{loop{loop{loop{try }}}}}}}} ?")
        for end in range(len(text) + 1):
            self.assertEqual(position(read_family, text[:end]), misfit(text[:end], "Family"), text[:end])

    def test_the_canonical_text_of_steps_read_again(self):
        rng = random.Random(5)
        for _ in range(500):
            body = read_steps(joined(rng, grown(rng, "Body0", 60)))
            self.assertEqual(read_steps(write_steps(body)), body)
            self.assertEqual(misfit(write_steps(body), "Body0"), None)
