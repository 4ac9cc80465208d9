"""Point 44: systems and worlds as texts."""

import unittest
from fractions import Fraction
from itertools import product

from helper import all_sets, by_chance, caught, long_share, long_system, random_system, random_world, seen
from linkedfaults.sums import worst
from linkedfaults.systems import System
from linkedfaults.texts import read, write
from linkedfaults.worlds import World

HALF = (1, 2)
HOUSE = System({"a": (1, 3), "b": 0, "c": 1}, [("a", "b"), ("b", "c")])
HOUSE_TEXT = "system\nfault a 1/3\nfault b 0\nfault c 1\nlink a b\nlink b c"
WORLD = World(["b", "a"], {(): HALF, ("b",): (1, 3), ("a", "b"): (1, 6)})
WORLD_TEXT = "world a b\n1/2\n1/3 b\n1/6 a b"
SIGNS = [chr(number) for number in range(32, 127)]


def number_of(word):
    return (Fraction(word).numerator, Fraction(word).denominator)


def text_of_system(lines):
    """The text of a system that the lines may mean, read as kindly as can be."""
    words = [line.split() for line in lines[1:]]
    shares = {told[1]: number_of(told[2]) for told in words if told[0] == "fault"}
    return write(System(shares, [tuple(told[1:]) for told in words if told[0] == "link"]))


def text_of_world(lines):
    """The text of a world that the lines may mean; what its sum lacks is put in by the set of all names."""
    names = lines[0].split()[1:]
    outcomes = {tuple(line.split()[1:]): number_of(line.split()[0]) for line in lines[1:]}
    rest = 1 - sum([Fraction(*share) for share in outcomes.values()], Fraction(0))
    if rest and tuple(names) not in outcomes:
        outcomes[tuple(names)] = (rest.numerator, rest.denominator)
    return write(World(names, outcomes))


def begins(lines):
    """Whether a text of a system or a world begins with these lines."""
    for work in (text_of_system, text_of_world):
        try:
            if work(lines).split("\n")[:len(lines)] == lines:
                return True
        except (ValueError, IndexError, ZeroDivisionError):
            pass
    return False


def wrong_line(text):
    """The line that BadText tells, by the words of the document; None for a text."""
    lines = text.split("\n")
    for count in range(1, len(lines) + 1):
        if not begins(lines[:count]):
            return count
    work = text_of_world if text.startswith("world") else text_of_system
    return None if work(lines) == text else len(lines) + 1


def things():
    """Systems and worlds of all sizes, by chance."""
    chance = by_chance(101)
    for size in range(9):
        names = chance.sample(["a", "b", "c", "d1", "d", "zz", "fault", "link", "world", "system", "abcdefgh", "a0"],
                              size)
        yield random_system(chance, names)
        yield long_system(chance, names, 2)
        yield random_world(chance, names)
        yield World.quiet(names)
        if size < 5:
            yield worst(System({name: long_share(chance, 5) for name in names}, [tuple(names[:2])] if size > 1 else []))


def changed_texts(seed, text, many):
    """Texts that are much like one: lines taken out, doubled, exchanged, put in; words and signs changed."""
    chance = by_chance(seed)
    others = [*HOUSE_TEXT.split("\n"), *WORLD_TEXT.split("\n"), "", " ", "1", "0", "1/1", "fault d 1/2", "link a c",
              "fault a",
              "0 a", "1/12", "world", "link a a", "link c b", "2", "4/3", "-1", "3/4 b a"]
    words = ["a", "b", "c", "d", "1/2", "2/4", "1", "0", "01", "1/3", "1/6", "world", "system", "fault", "link", "",
             "a b", "A", "-0"]
    for _ in range(many):
        lines = text.split("\n")
        for _ in range(chance.choice((1, 1, 2))):
            at, other = chance.randrange(len(lines)), chance.randrange(len(lines))
            kind = chance.randrange(7)
            if kind == 0 and len(lines) > 1:
                del lines[at]
            elif kind == 1:
                lines.insert(at, lines[other])
            elif kind == 2:
                lines[at], lines[other] = lines[other], lines[at]
            elif kind == 3:
                lines.insert(at, chance.choice(others))
            elif kind == 4:
                told = lines[at].split(" ")
                told[chance.randrange(len(told))] = chance.choice(words)
                lines[at] = " ".join(told)
            elif kind == 5:
                place = chance.randint(0, len(lines[at]))
                lines[at] = lines[at][:place] + chance.choice(SIGNS + ["\n"] * 5) + lines[at][place:]
            else:
                place = chance.randint(0, len(lines[at]))
                lines[at] = lines[at][:place] + chance.choice(["", *SIGNS]) + lines[at][place + 1:]
        yield "\n".join(lines)


class TextTest(unittest.TestCase):

    def check(self, text):
        """Whether a string is a text; that read tells it as the document says."""
        line = wrong_line(text)
        if line is None:
            self.assertEqual(write(read(text)), text)
        else:
            self.assertEqual(seen(caught(read, text)), ("BadText", {"line": line}), text)
        return line is None

    def bad(self, line, text):
        self.assertEqual(seen(caught(read, text)), ("BadText", {"line": line}), text)
        self.assertEqual(wrong_line(text), line, text)


class WriteTest(TextTest):

    def test_systems(self):
        self.assertEqual(write(HOUSE), HOUSE_TEXT)
        self.assertEqual(write(System({})), "system")
        self.assertEqual(write(System({"b": [2, 4], "a0": (3, 3), "a": (0, 7)},
                                      [("b", "a0"), ("a0", "b"), ("b", "a")])),
                         "system\nfault a 0\nfault a0 1\nfault b 1/2\nlink a b\nlink a0 b")
        self.assertEqual(write(System({"a": (10 ** 29, 10 ** 30 - 1)})),
                         "system\nfault a 100000000000000000000000000000/999999999999999999999999999999")

    def test_worlds(self):
        self.assertEqual(write(WORLD), WORLD_TEXT)
        self.assertEqual([write(World([], {(): 1})), write(World.quiet(["b", "a"])),
                          write(World(["a"], {("a",): 1, (): 0}))],
                         ["world\n1", "world a b\n1", "world a\n1 a"])
        self.assertEqual(write(World(["c", "a", "b"], {("c", "a"): (2, 8), ("c",): (1, 4), ("b", "c", "a"): (1, 4),
                                                       (): 0, ("b", "a"): (1, 4)})),
                         "world a b c\n1/4 c\n1/4 a b\n1/4 a c\n1/4 a b c")

    def test_read_of_what_was_written(self):
        for thing in things():
            text = write(thing)
            again = read(text)
            self.assertTrue(again == thing)
            self.assertIs(again.__class__, thing.__class__)
            self.assertEqual(write(again), text)
            if len(text) < 2000:
                self.assertIsNone(wrong_line(text))

    def test_calls_by_name(self):
        self.assertEqual([write(thing=HOUSE), read(text=HOUSE_TEXT)], [HOUSE_TEXT, HOUSE])

    def test_long_numbers(self):
        share = (10 ** 999, 10 ** 1000 - 3)
        text = f"system\nfault a {share[0]}/{share[1]}"
        self.assertEqual([write(System({"a": share})), read(text)["a"]], [text, share])
        self.bad(2, f"system\nfault a {share[0]}/{share[1] + 3}")
        self.bad(2, f"world a\n{share[0]}/{share[1]} a")
        share = (2, 10 ** 900 + 1)
        text = f"world a\n{share[1] - 2}/{share[1]}\n2/{share[1]} a"
        self.assertEqual([read(text)[["a"]], write(read(text))], [share, text])
        few, many = "1" + "0" * 1999, "1" + "0" * 1998 + "1"
        self.assertEqual(write(World(["a"], {("a",): (1, 10 ** 1999 + 1), (): (10 ** 1999, 10 ** 1999 + 1)})),
                         f"world a\n{few}/{many}\n1/{many} a")


class ReadSystemTest(TextTest):

    def test_the_first_line(self):
        for text in ("", " ", "\n", "\nsystem", "System", "system ", " system", "system a", "systems", "fault a 1",
                     "link a b", "worlds",
                     "1", "/", "syste", " world", "World a"):
            self.bad(1, text)
        self.assertEqual(read("system"), System({}))
        self.bad(2, "system\n")
        self.bad(2, "system\n\n")
        self.bad(2, "system\nsystem")
        self.bad(2, "system\nworld")

    def test_faults(self):
        for line in ("fault", "fault a", "fault a ", "fault  a 1", "fault a  1", " fault a 1", "fault a 1 ",
                     "fault a 1 1", "Fault a 1",
                     "fault A 1", "fault abcdefghi 1", "fault 1 1", "fault a_ 1", "fault  1", "a 1", "fault a b",
                     "fault a,1", "", " "):
            self.bad(2, f"system\n{line}")
            self.bad(2, f"system\n{line}\nfault b 1")
            self.bad(3, f"system\nfault a0 1\n{line}")
        self.bad(3, "system\nfault a 1\nfault a 1")
        self.bad(3, "system\nfault b 1\nfault a 1")
        self.bad(4, "system\nfault a 1\nfault b 1\nfault a 1/2\nfault")
        self.bad(5, HOUSE_TEXT.replace("link a b", "link a b\nfault d 1").replace("fault c 1\n", ""))
        self.bad(4, "system\nfault a0 1\nfault ab 0\nfault aa 1")
        self.assertEqual(read("system\nfault fault 1/2\nfault link 1"), System({"fault": HALF, "link": 1}))

    def test_numbers(self):
        for word in ("2/4", "0/1", "1/1", "0/3", "2/2", "3/2", "2", "10", "-1", "-0", "+1", "01", "00", "1/02", "01/2",
                     "1/0", "0/0",
                     "-1/2", "1/-2", "--1", "1//2", "1/2/3", "/2", "1/", "/", "1.0", "1.", ".5", "1e0", "1_0/11",
                     "0x1", "1 /2", "1/ 2", "a",
                     "1/a", "True", "None", "(1,", "1\\2", "1%", "0.5", "1/2.", "1,2"):
            self.bad(2, f"system\nfault a {word}")
            self.bad(2, f"world a\n{word}\n1/2 a")
        for word, share in (("0", 0), ("1", 1), ("1/2", HALF), ("9/10", (9, 10)), ("10/11", (10, 11)),
                            ("1/1000", (1, 1000))):
            self.assertEqual(read(f"system\nfault a {word}"), System({"a": share}))

    def test_links(self):
        for line in ("link", "link a", "link a ", "link a b c", "link b a", "link a a", "link a d", "link d e",
                     "link  a b", "link a  b",
                     "Link a b", "link a b ", " link a b", "link A b", "a b", "", "link a,b", "fault a 1"):
            self.bad(5, f"system\nfault a 1\nfault b 1\nfault c 1\n{line}")
            self.bad(5, f"system\nfault a 1\nfault b 1\nfault c 1\n{line}\nlink b c\nlink")
            self.bad(6, f"system\nfault a 1\nfault b 1\nfault c 1\nlink a c\n{line}")
        begun = "system\nfault a 1\nfault b 1\nfault c 1\n"
        self.bad(6, begun + "link a b\nlink a b")
        self.bad(6, begun + "link a c\nlink a b")
        self.bad(6, begun + "link b c\nlink a b")
        self.bad(6, begun + "link b c\nfault d 1")
        self.bad(8, begun + "link a b\nlink a c\nlink b c\nlink c d")
        self.bad(8, begun + "link a b\nlink a c\nlink b c\n")
        self.bad(4, "system\nfault a 1\nfault b 1\nlink b c\nfault c 1")
        self.assertEqual(read(begun + "link a b\nlink a c\nlink b c").links(), [("a", "b"), ("a", "c"), ("b", "c")])

    def test_every_beginning_of_a_text_is_one(self):
        lines = HOUSE_TEXT.split("\n")
        for count in range(1, len(lines) + 1):
            text = "\n".join(lines[:count])
            self.assertEqual(write(read(text)), text)
            self.bad(count + 1, text + "\n")
            # Lines are taken whole.
            for size in range(1, len(lines[count - 1])):
                self.check(text[:-size])


class ReadWorldTest(TextTest):

    def test_the_first_line(self):
        for line in ("world ", "world  a", "world a ", "world b a", "world a a", "world A", "world a  b",
                     "world abcdefghi", "world 1",
                     "world a,b", " world a", "World", "world a b a", "world\ta", "worlda", "world a B", "world a1 a0"):
            self.bad(1, line)
            self.bad(1, f"{line}\n1")
        for line in ("world", "world a", "world a a0 b", "world a b c d e f g h", "world system world"):
            self.bad(2, line)
            self.assertEqual(read(f"{line}\n1"), World.quiet(line.split()[1:]))

    def test_cases(self):
        for line in ("", " ", "a", "0", "0 a", "1/2 ", " 1/2", "1/2  a", "1/2 a ", "1/2 c", "1/2 b a", "1/2 a a",
                     "1/2 A", "1/2,a", "1/2 a c",
                     "2", "3/2", "2 a", "-1/2", "a 1/2", "1/2 a b c", "1/2 1/2", "world a b", "1/2 a b"):
            self.bad(2, f"world a b\n{line}")
            self.bad(2, f"world a b\n{line}\n1/2 b")
        for line in ("1/4", "1/4 a", "1/2 a", "0 b", "1 b", "3/4 b", "2/3 a b", "1/4 a b", "1/3 a b", "2/4 b", "",
                     "1/2 b a"):
            self.bad(3, f"world a b\n1/2 a\n{line}")
        for line in ("1/2 b", "1/2 a b", "1/4 b\n1/4 a b"):
            self.assertEqual(write(read(f"world a b\n1/2 a\n{line}")), f"world a b\n1/2 a\n{line}")

    def test_order(self):
        self.bad(3, "world a b\n1/4 b\n1/4 a\n1/2 a b")
        self.bad(3, "world a b c\n1/4 a b\n1/4 c\n1/2 a b c")
        self.bad(3, "world a b c\n1/4 b c\n1/4 a c\n1/2 a b c")
        self.bad(3, "world a b\n1/4\n1/4\n1/2 a")
        self.assertEqual(len(read("world a b c\n1/8\n1/8 a\n1/8 b\n1/8 c\n1/8 a b\n1/8 a c\n1/8 b c\n1/8 a b c")), 8)

    def test_sums(self):
        self.bad(3, "world a\n1/2\n1/3 a")
        self.bad(2, "world a\n1/2 a")
        self.bad(2, "world\n1/2")
        self.bad(3, "world a\n1/2\n2/3 a")
        self.bad(3, "world a b\n1/2\n2/3 a\n1/2 b")
        self.bad(3, "world a b\n1\n1/9 a")
        self.bad(3, "world\n1\n1")
        self.bad(3, "world\n1\n")
        self.bad(3, "world a b\n1/2 a")
        self.bad(4, "world a b\n1/2 a\n1/3 b")
        self.bad(4, "world a b\n1/2 a\n1/3 b\n1/7 a b")
        self.bad(5, "world a b\n1/2 a\n1/3 b\n1/6 a b\n1/6 a b")
        little = 10 ** 30
        self.bad(3, f"world a\n{little - 2}/{little - 1}\n1/{little} a")
        self.bad(3, f"world a\n{little - 2}/{little - 1}\n1/{little - 2} a")
        self.assertEqual(len(read(f"world a\n{little - 2}/{little - 1}\n1/{little - 1} a")), 2)

    def test_all_small_ones(self):
        told = 0
        lines = ("1/2", "1/2 a", "1/4 b", "1/4 a b", "1 a", "1/2 a b")
        for size in range(5):
            for some in product(lines, repeat=size):
                told += self.check("\n".join(["world a b", *some]))
        self.assertTrue(told >= 6)
        names = [some for some in all_sets("ab")]
        for some in product(names, repeat=2):
            self.check("\n".join(["world a b", *[" ".join(["1/2", *one]) for one in some]]))


class ChangedTextsTest(TextTest):

    def test_small_ones(self):
        right, wrong, seed = 0, 0, 0
        for text in (HOUSE_TEXT, WORLD_TEXT, "system", "world\n1", "world a\n1/2\n1/2 a",
                     "system\nfault a 1/2\nfault b 1/2\nlink a b"):
            seed += 1
            for changed in changed_texts(seed, text, 700):
                if self.check(changed):
                    right += 1
                else:
                    wrong += 1
        self.assertTrue(min(right, wrong) > 200, (right, wrong))

    def test_great_ones(self):
        chance = by_chance(102)
        for seed in range(12):
            names = list("abcdefgh")[:chance.randint(4, 8)]
            for thing in (random_system(chance, names), random_world(chance, names[:5])):
                for changed in changed_texts(seed, write(thing), 25):
                    if len(changed) <= 2000:
                        self.check(changed)

    def test_every_line_taken_out_doubled_and_exchanged(self):
        chance = by_chance(103)
        for thing in (random_system(chance, "abcde"), random_world(chance, "abc"), WORLD, HOUSE):
            lines = write(thing).split("\n")
            for at in range(len(lines)):
                self.check("\n".join(lines[:at] + lines[at + 1:]))
                self.check("\n".join(lines[:at] + [lines[at]] + lines[at:]))
                self.check("\n".join(lines[:at] + [""] + lines[at:]))
                for other in range(at):
                    swapped = list(lines)
                    swapped[at], swapped[other] = lines[other], lines[at]
                    self.check("\n".join(swapped))
            self.bad(len(lines) + 1, "\n".join(lines) + "\n")

    def test_texts_that_only_lack_their_end(self):
        lines = WORLD_TEXT.split("\n")
        for count in range(1, len(lines)):
            self.bad(count + 1, "\n".join(lines[:count]))


if __name__ == "__main__":
    unittest.main()
