"""Points [33] and [34] of webs: Web.read and str."""

import random
import re
import unittest

from samples import Case, odd_values, random_web, sample_webs
from sixasone.errors import BadText
from sixasone.webs import Web

NAME = r"(?!(?:open|shut|net)\b)[a-z]{1,8}\b"
JOINT = r"(?:0|[1-9][0-9]?)"
LINK = f"{JOINT}-{NAME}-{JOINT}"
NET = re.compile(rf"\[{LINK}(?: {LINK})*\]")
COMPOUND = re.compile(r"\((?:<N+>(?: & <N+>)+|<N+>(?: \| <N+>)+)\)")
ENDS = ["", "a", "aa", "-a-0]", "0-a-0]", "a-0]", "-0]", "0]", "]", " & a", " | a", "& a", "| a", " a"]


def is_right(text):
    """Whether a text is right: what is innermost becomes <N..N>, one N for each name."""
    if text in ("open", "shut"):
        return True
    if any(sign in text for sign in "N<>\n"):
        return False
    text = NET.sub(lambda found: f"<{'N' * (found.group().count('-') // 2)}>", text)
    text = re.sub(rf"(?<![a-z-]){NAME}", "<N>", text)
    while COMPOUND.search(text):
        text = COMPOUND.sub(lambda found: f"<{'N' * found.group().count('N')}>", text)
    return bool(re.fullmatch("<N{1,14}>", text))


def is_live(text):
    """Whether some right text begins with a text of few names."""
    for end in ENDS + ["open"[len(text):], "shut"[len(text):]]:
        tails = [end]
        for _ in range(text.count("(") - text.count(")") + 1):
            if any(is_right(text + tail) for tail in tails):
                return True
            tails = [tail + close for tail in tails for close in (")", " & a)", " | a)")]
    return False


class ReadingTest(Case):
    def test_written_is_read_back(self):
        for web in sample_webs(80, 14):
            self.same(is_right(str(web)), True)
            self.assertEqual(Web.read(str(web)), web)

    def test_forms(self):
        self.same([Web.read("open").kind, Web.read("shut").kind, Web.read(text="opens").kind], ["open", "shut", "link"])
        self.assertEqual(Web.read("(b & (a & c))"), Web.row("b", "a", "c"))
        self.assertEqual(Web.read("((a | b) | (c & d) | [2-x-0])"),
                         Web.bunch("a", "b", Web.row("c", "d"), Web.net([("x", 0, 2)])))
        self.same(Web.read("[3-x-0 1-y-3 99-a-10]").links, (("a", 10, 99), ("x", 0, 3), ("y", 1, 3)))
        self.same([str(Web.read("(a & a)")), str(Web.read("(opena & nets)"))], ["(a & a)", "(opena & nets)"])

    def test_told_wrong_texts(self):
        for text, at in (
                ("(a & b) ", 7), ("(open & a)", 5), ("[0-a-100]", 7), ("net", 3), ("(a & b | c)", 7), ("", 0), ("a ", 1),
                (" a", 0), ("A", 0), ("aA", 1), ("abcdefghi", 8), ("open ", 4), ("shut&", 4), ("(shut", 5), ("(net)", 4),
                ("(a)", 2), ("(a", 2), ("(a ", 3), ("(a &", 4), ("(a & ", 5), ("(a & b", 6), ("(a && b)", 4),
                ("(a  & b)", 3), ("(a & b))", 7), ("()", 1), ("[]", 1), ("[", 1), ("[00", 2), ("[01-a-0]", 2),
                ("[0-open-1]", 7), ("[0-a-1", 6), ("[0-a-1 ", 7), ("[0-a-1  2-b-3]", 7), ("[0-a-1]]", 7), ("[0 a", 2),
                ("[0-a-1,", 6), ("[-a-", 1), ("[0--", 3), ("a & b", 1), ("(a & b)c", 7), ("a\n", 1), ("(net & a)", 4),
                ("[100-a-0]", 3), ("[9", 2), ("[99", 3), ("ne", None), ("op", None), ("[0-a-12]", None)):
            if at is None:
                self.same(Web.read(text).kind in ("link", "net"), True)
            else:
                self.fails(BadText, [at], Web.read, text)

    def test_fourteen_names(self):
        names = list("abcdefghijklmn")
        row = "(" + " & ".join(names) + ")"
        self.same(len(Web.read(row)), 14)
        self.fails(BadText, [len(row) - 1], Web.read, row[:-1] + " & o)")
        net = "[" + " ".join(f"0-{name}-1" for name in names) + "]"
        self.same(len(Web.read(net)), 14)
        self.fails(BadText, [len(net) - 1], Web.read, net[:-1] + " 0-o-1]")

    def test_deep_brackets(self):
        deep = "(" * 13 + "a" + " & a)" * 13
        self.same(len(Web.read(deep)), 14)
        self.same(len(Web.read("(a | " * 13 + "a" + ")" * 13)), 14)
        self.fails(BadText, [13], Web.read, "(" * 14 + "a")
        self.fails(BadText, [13], Web.read, "(" * 13)
        self.fails(BadText, [14], Web.read, "(" * 13 + "a")
        self.fails(BadText, [13], Web.read, "(" * 13 + "(")
        self.fails(BadText, [19], Web.read, "(" * 13 + "a & b)" + "x")
        self.fails(BadText, [13 + 5], Web.read, "(" * 13 + "a & b" + " & c)")
        self.fails(BadText, [5 * 13], Web.read, "(a | " * 13 + "(")
        self.fails(BadText, [5 * 13 + 1], Web.read, "(a | " * 13 + "a & b")

    def test_names_that_brackets_still_want(self):
        # Twelve brackets want twelve names behind their first parts, so a net there has two.
        twelve = "(" * 12 + "[0-a-0 0-b-0"
        self.fails(BadText, [len(twelve)], Web.read, twelve + " 0-c-0]")
        self.same(len(Web.read(twelve + "]" + " & a)" * 12)), 14)
        self.fails(BadText, [len("((a & b) & (c")], Web.read, "((a & b) & (c")
        thirteen = "(" + " & ".join("abcdefghijklm") + " & "
        self.fails(BadText, [len(thirteen)], Web.read, thirteen + "(n & o))")
        self.same(len(Web.read(thirteen + "[0-n-1])")), 14)

    def test_each_beginning_of_a_right_text_is_live(self):
        chance = random.Random(4)
        for _ in range(150):
            text = str(random_web(chance, 14, ["a", "nets", "abcdefgh"]))
            for at in range(len(text)):
                self.same(self.live_length(text[:at]), at)

    def test_each_live_beginning_can_be_ended(self):
        chance = random.Random(6)
        for _ in range(60):
            text = ""
            while self.live_length(text) == len(text) and len(text) < 120:
                elder = text
                signs = [sign for sign in "(((a[0-1 &|)]" if self.live_length(text + sign) == len(text) + 1]
                text += chance.choice(signs or ["!"])
            # The first of these signs that can stand always leads to an end.
            for _ in range(300):
                if is_right(elder):
                    break
                elder += next(sign for sign in ")]a0- &|" if self.live_length(elder + sign) == len(elder) + 1)
            self.same(is_right(elder), True)

    def live_length(self, text):
        """The length of the longest beginning of a text that is told to be live."""
        try:
            Web.read(text)
        except BadText as error:
            return error.at
        return len(text)

    def test_no_string(self):
        for odd in odd_values():
            if not isinstance(odd, str):
                self.fails(BadText, [0], Web.read, odd)

    def test_longest_beginnings(self):
        chance = random.Random(3)
        signs = "ab()[]&| -019opensht\n"
        checked = 0
        while checked < 1500:
            text = str(random_web(chance, chance.randrange(1, 6), ["a", "bc", "opened", "nets"]))
            at = chance.randrange(len(text) + 1)
            kept = at + chance.randrange(2)
            text = text[:at] + chance.choice(["", chance.choice(signs)]) + text[kept:]
            if len(text) > 40 or text.count("(") > 3:
                continue
            checked += 1
            if is_right(text):
                self.same(is_right(str(Web.read(text))), True)
                continue
            live = 0
            while live < len(text) and is_live(text[:live + 1]):
                live += 1
            self.fails(BadText, [live], Web.read, text)


if __name__ == "__main__":
    unittest.main()
