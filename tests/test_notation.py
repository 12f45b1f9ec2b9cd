"""Point 51: the written form of values, and where a text goes wrong."""

import unittest
from random import Random

from easelwork.errors import BadText
from easelwork.notation import read_prefix, read_value, write_value

PERCENT = chr(37)
SIGNS = [chr(n) for n in range(32, 127)]
STRING_SIGNS = [sign for sign in SIGNS if sign not in ("~", PERCENT)]


def nested(depth, inner):
    """A tuple that is this deep, counting one for each tuple around inner."""
    for _ in range(depth):
        inner = (inner,)
    return inner


def some_value(chance, depth=0):
    kind = chance.randint(0, 6 if depth < 5 else 3)
    if kind == 0:
        return chance.choice((0, 1, -1, 10, -10 ** 29, 10 ** 30 - 1, 1 - 10 ** 30, chance.randint(-999, 999)))
    if kind == 1:
        return "".join(chance.choice(STRING_SIGNS + ['"', "\\"] * 8) for _ in range(chance.randint(0, 6)))
    if kind in (2, 3):
        return chance.choice((True, False, None))
    return tuple(some_value(chance, depth + 1) for _ in range(chance.choice((0, 1, 1, 2, 3))))


class Beginnings:
    """A slow, separate account of what begins a written form: it follows the text sign by sign, with a stack."""

    def __init__(self):
        self.open = []        # for each open tuple, how many items it has
        self.now = "value"    # what must come next
        self.word = ""        # what is still to come of a word, or the digits so far

    def ends(self):
        """True if the text so far is a whole written form."""
        return not self.open and (self.now == "done" or (self.now in ("zero", "digits")))

    def take(self, sign):
        """Takes one more sign; False if nothing begins so."""
        if self.now == "item or end" and sign == ")":
            return self.close()
        if self.now in ("value", "item or end"):
            return self.start(sign)
        if self.now == "minus":
            return self.digit(sign, "123456789")
        if self.now == "digits" and sign in "0123456789" and len(self.word) < 30:
            self.word += sign
            return True
        if self.now == "string":
            return self.string(sign)
        if self.now == "escape":
            self.now = "string"
            return sign in '"\\'
        if self.now == "word":
            first, self.word = self.word[0], self.word[1:]
            self.now = "word" if self.word else "done"
            return sign == first
        return self.behind(sign)

    def start(self, sign):
        if sign == "(":
            self.open.append(0)
            self.now = "item or end"
            return len(self.open) <= 40
        self.word = {"t": "rue", "f": "alse", "n": "one"}.get(sign, "")
        if self.word:
            self.now = "word"
            return True
        if sign == "0":
            self.now = "zero"
            return True
        if sign == "-":
            self.now = "minus"
            return True
        if sign == '"':
            self.now = "string"
            return True
        return self.digit(sign, "123456789")

    def digit(self, sign, digits):
        self.now, self.word = "digits", sign
        return sign in digits

    def string(self, sign):
        if sign == '"':
            self.now = "done"
        elif sign == "\\":
            self.now = "escape"
        return sign in STRING_SIGNS

    def behind(self, sign):
        """After a whole item, within a tuple or not."""
        if not self.open:
            return False
        self.open[-1] += 1
        if sign == ",":
            self.now = "item or end" if self.open[-1] == 1 else "value"
            return True
        return sign == ")" and self.open[-1] > 1 and self.close()

    def close(self):
        self.open.pop()
        self.now = "done"
        return True


def wrong_at(text, start=0):
    """The position of the error by the slow account, or None; and the longest whole form from start on."""
    account = Beginnings()
    longest = None
    for at in range(start, len(text)):
        if not account.take(text[at]):
            return at, longest
        if account.ends():
            longest = at + 1
    return len(text), longest


class NotationCase(unittest.TestCase):
    def check_bad(self, text, position):
        with self.assertRaises(BadText, msg=text) as caught:
            read_value(text)
        self.assertEqual(caught.exception.position, position, text)

    def check_both_ways(self, value, text):
        self.assertEqual(write_value(value), text)
        back = read_value(text)
        self.assertEqual(repr(back), repr(value))


class WriteTest(NotationCase):
    def test_each_kind_has_its_form(self):
        for value, text in (
                (0, "0"), (7, "7"), (-7, "-7"), (10, "10"), (10 ** 30 - 1, "9" * 30), (1 - 10 ** 30, "-" + "9" * 30),
                (True, "true"), (False, "false"), (None, "none"), ((), "()"), ((0,), "(0,)"), ((1, 2), "(1,2)"),
                (((), ((),), True), "((),((),),true)"), ("", '""'), ("a b", '"a b"'), ("true", '"true"'),
                ('"', '"\\""'), ("\\", '"\\\\"'), ('a"\\b', '"a\\"\\\\b"'), ((1, (2, (3, "x"))), '(1,(2,(3,"x")))')):
            self.check_both_ways(value, text)

    def test_every_sign_of_a_string(self):
        text = "".join(STRING_SIGNS)
        self.assertEqual(read_value(write_value(text)), text)
        self.assertEqual(write_value("}{ ~"[:3]), '"}{ "')

    def test_many_values(self):
        chance = Random(1)
        seen = {}
        for _ in range(2000):
            value = some_value(chance)
            text = write_value(value)
            self.assertEqual(repr(read_value(text)), repr(value))
            self.assertEqual(read_prefix(text, 0)[1], len(text))
            self.assertEqual(seen.setdefault(text, repr(value)), repr(value))

    def test_tuples_forty_deep(self):
        for value in (nested(39, ()), nested(40, 5), nested(40, "a")):
            self.assertEqual(read_value(write_value(value)), value)

    def test_writing_somewhat_beyond_the_limits(self):
        self.assertEqual(write_value(10 ** 31), "1" + "0" * 31)
        self.assertEqual(write_value(nested(45, ())), "(" * 45 + "()" + ",)" * 45)
        self.assertEqual(write_value("~"), '"~"')


class ReadTest(NotationCase):
    def test_the_table_of_the_document(self):
        for text, position in (
                ("", 0), ("-0", 1), ("01", 1), ("1 ", 1), ("(1)", 2), ('"a', 2), ("tru", 3), ("(1,2,)", 5),
                ("1" + "0" * 30, 30), ("(" * 41, 40)):
            self.check_bad(text, position)

    def test_integers(self):
        for text, position in (
                ("-", 1), ("--1", 1), ("-a", 1), ("+1", 0), ("00", 1), ("0x", 1), ("1a", 1), ("-01", 1), (" 1", 0),
                ("-1" + "0" * 30, 31), ("(1" + "0" * 30 + ",)", 31), ("1.5", 1), ("1_0", 1), ("12-", 2)):
            self.check_bad(text, position)

    def test_strings(self):
        for text, position in (
                ('"', 1), ('"\\', 2), ('"\\n"', 2), ('"\\\\\\', 4), ('"a~"', 2), ('"' + PERCENT + '"', 1),
                ('"a""', 3), ("'a'", 0), ('"a\n"', 2), ('"\\"', 3), ('"a" ', 3), ('"\x7f"', 1)):
            self.check_bad(text, position)

    def test_words(self):
        for text, position in (
                ("t", 1), ("fals", 4), ("non", 3), ("True", 0), ("trUe", 2), ("falze", 3), ("truee", 4), ("nil", 1),
                ("x", 0), (",", 0), (")", 0), ("~", 0)):
            self.check_bad(text, position)

    def test_tuples(self):
        for text, position in (
                ("(", 1), ("(,)", 1), ("(1", 2), ("(1,", 3), ("(1,,", 3), ("(1,2", 4), ("(1,2,", 5), ("(1 ,)", 2),
                ("( 1,)", 1), ("()()", 2), ("())", 2), ("(1,)(", 4), ("(1,2))", 5), ("((),()", 6), ("(())", 3),
                ("((1,2,),3)", 6), ("(1,2,3,)", 7), ("(1;", 2), ("[1,]", 0)):
            self.check_bad(text, position)

    def test_depth(self):
        self.assertEqual(read_value("(" * 40 + ")" + ",)" * 39), nested(39, ()))
        self.check_bad("(" * 40, 40)
        self.check_bad("(" * 500, 40)
        self.check_bad("(1," * 40 + "(", 120)
        self.assertEqual(read_value("(" * 40 + "1" + ",)" * 40), nested(40, 1))

    def test_every_text_goes_wrong_where_the_slow_account_says(self):
        chance = Random(2)
        for turn in range(6000):
            text = write_value(some_value(chance))
            at = chance.randint(0, len(text))
            if turn % 3 == 0:
                text = text[:at]
            elif turn % 3 == 1:
                text = text[:at] + chance.choice('()",-01~\\ tfn' + PERCENT) + text[at:]
            else:
                text = text[:at] + text[at + 1:]
            position, longest = wrong_at(text)
            if longest == len(text):
                self.assertEqual(write_value(read_value(text)), text)
            else:
                self.check_bad(text, position)


class PrefixTest(NotationCase):
    def test_the_longest_form_is_read(self):
        for text, at, value, end in (
                ("12,5", 0, 12, 2), ("01", 0, 0, 1), ("12", 1, 2, 2), ("1" * 31, 0, int("1" * 30), 30),
                ("-5-5", 0, -5, 2), ("-5-5", 2, -5, 4), ('"a"b', 0, "a", 3), ("truetrue", 4, True, 8),
                ("(1,)(2,3)", 0, (1,), 4), ("(1,)(2,3)", 4, (2, 3), 9), ("x()", 1, (), 3), ("nonexyz", 0, None, 4),
                ("00", 1, 0, 2), ("-10" + "0" * 29, 0, -10 ** 29, 31)):
            self.assertEqual(read_prefix(text, at), (value, end))

    def test_positions_count_from_the_start_of_the_text(self):
        for text, at, position in (
                ("", 0, 0), ("12", 2, 2), ("x", 0, 0), ("1,-0", 2, 3), ("1,-", 2, 3), ("ab(1)", 2, 4),
                ('ab"c', 2, 4), ("ab" + "(" * 41, 2, 42), ("1,tru", 2, 5), ("1,trx", 2, 4)):
            with self.assertRaises(BadText) as caught:
                read_prefix(text, at)
            self.assertEqual(caught.exception.position, position, text)

    def test_a_prefix_ends_where_the_slow_account_says(self):
        chance = Random(3)
        for _ in range(3000):
            text = "".join(write_value(some_value(chance)) for _ in range(2)) + chance.choice(("", "0", "(", '"'))
            at = chance.randint(0, len(text))
            position, longest = wrong_at(text, at)
            if longest is None:
                with self.assertRaises(BadText) as caught:
                    read_prefix(text, at)
                self.assertEqual(caught.exception.position, position, (text, at))
            else:
                value, end = read_prefix(text, at)
                self.assertEqual((write_value(value), end), (text[at:longest], longest))


if __name__ == "__main__":
    unittest.main()
