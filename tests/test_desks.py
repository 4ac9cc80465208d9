"""Points 40 to 43: desks, their deeds and news, what is watched, and trials."""

import unittest

from helper import ODD_THINGS, by_chance, caught, long_share, random_share, random_system, seen
from linkedfaults.desks import Desk
from linkedfaults.errors import FaultError
from linkedfaults.sums import least_chance
from linkedfaults.systems import System

HALF = (1, 2)
HOUSE = System({"a": (1, 3), "b": (1, 4), "c": (1, 3)}, [("a", "b"), ("b", "c")])


def watching():
    """A desk at which much is watched."""
    desk = Desk(HOUSE)
    for word, names in (("w2", ["a"]), ("all", ["a", "b", "c", "d"]), ("w1", ("c", "x")), ("none", []),
                        ("gone", ["x", "y"])):
        desk.watch(word, names)
    return desk


def state(desk):
    """All that can be seen of a desk: also the systems to which undo and again lead, which is put right again."""
    systems, news, steps = [desk.system()], [], 0
    while caught(desk.undo) is None:
        steps += 1
        systems.insert(0, desk.system())
    for _ in range(steps):
        news.append(desk.again())
    ahead = 0
    while caught(desk.again) is None:
        ahead += 1
        systems.append(desk.system())
    for _ in range(ahead):
        news.append(desk.undo())
    return (steps, systems, desk.chances(), news)


class DeedsTest(unittest.TestCase):

    def test_system(self):
        desk = Desk(system=HOUSE)
        self.assertEqual([desk.system(), desk.chances()], [HOUSE, {}])
        self.assertEqual(Desk(System({})).system(), System({}))

    def test_each_deed(self):
        desk = Desk(HOUSE)
        self.assertEqual([desk.put("d", HALF, ["a", "c", "a"]), desk.put("e", [0, 3])], [[], []])
        wanted = HOUSE.more("d", HALF, ["a", "c"]).more("e", 0)
        self.assertEqual(desk.system(), wanted)
        self.assertEqual([desk.drop("b"), desk.change("a", 1), desk.tie("e", "d"), desk.untie("d", "a")], [[]] * 4)
        self.assertEqual(desk.system(), (wanted - ["b"]).changed("a", 1).tied("d", "e").untied("a", "d"))
        self.assertEqual(HOUSE, System({"a": (1, 3), "b": (1, 4), "c": (1, 3)}, [("a", "b"), ("b", "c")]))

    def test_calls_by_name(self):
        desk = Desk(system=HOUSE)
        desk.watch(names=["a", "d"], word="w")
        self.assertEqual(desk.put(share=HALF, near=("a",), name="d"), [("w", (1, 6))])
        self.assertEqual(desk.change(share=(1, 5), name="d"), [("w", (7, 15))])
        self.assertEqual(desk.tie(other="a", one="d"), [])
        self.assertEqual(desk.untie(other="a", one="d"), [("w", (8, 15))])
        self.assertEqual(desk.drop(name="d"), [("w", (2, 3))])
        self.assertEqual(desk.trial(work=lambda told: told.chances()), {"w": (2, 3)})
        desk.unwatch(word="w")
        self.assertEqual([desk.chances(), desk.system()], [{}, HOUSE])

    def test_errors_of_deeds_and_that_they_change_nothing(self):
        desk = watching()
        desk.change("a", (1, 5))
        desk.drop("c")
        desk.undo()
        before = state(desk)
        for thing in ODD_THINGS:
            self.assertEqual(seen(caught(desk.put, thing, 2, [thing])), ("BadFault", {"name": thing}))
            self.assertEqual(seen(caught(desk.put, "d", 0, ["a", thing, "x"])), ("NoFault", {"name": thing}))
            self.assertEqual(seen(caught(desk.put, "d", thing, [thing])), ("BadFault", {"name": "d"}))
            self.assertEqual(seen(caught(desk.drop, thing)), ("NoFault", {"name": thing}))
            self.assertEqual(seen(caught(desk.change, thing, thing)), ("NoFault", {"name": thing}))
            self.assertEqual(seen(caught(desk.change, "a", thing)), ("BadShare", {"share": thing}))
            for work in (desk.tie, desk.untie):
                self.assertEqual(seen(caught(work, "a", thing)), ("NoFault", {"name": thing}))
                self.assertEqual(seen(caught(work, thing, None)), ("NoFault", {"name": thing}))
        self.assertEqual(seen(caught(desk.put, "a", 0)), ("BadFault", {"name": "a"}))
        self.assertEqual(seen(caught(desk.put, "d", 0, ["d"])), ("NoFault", {"name": "d"}))
        self.assertEqual(seen(caught(desk.drop, "d")), ("NoFault", {"name": "d"}))
        self.assertEqual(seen(caught(desk.drop, ["a"])), ("NoFault", {"name": ["a"]}))
        for work in (desk.tie, desk.untie):
            self.assertEqual(seen(caught(work, "b", "b")), ("SameFault", {"name": "b"}))
        self.assertEqual(state(desk), before)
        # What could be done again still can.
        self.assertEqual([desk.again(), desk.system()], [[("all", (11, 20)), ("w1", (1, 1))],
                                                         HOUSE.changed("a", (1, 5)) - ["c"]])

    def test_what_was_passed_may_be_changed(self):
        desk, near, share, names = Desk(HOUSE), ["a"], [1, 2], ["a", "d"]
        desk.watch("w", names)
        desk.put("d", share, near)
        near.append("b")
        share[0] = 0
        names.clear()
        self.assertEqual([desk.system(), desk.chances()], [HOUSE.more("d", HALF, ["a"]), {"w": (1, 6)}])
        desk.chances().clear()
        desk.change("d", 0).clear()
        self.assertEqual(desk.chances(), {"w": (2, 3)})


class WatchTest(unittest.TestCase):

    def test_chances(self):
        desk = watching()
        self.assertEqual(repr(desk.chances()),
                         "{'all': (7, 36), 'gone': (1, 1), 'none': (1, 1), 'w1': (2, 3), 'w2': (2, 3)}")
        desk.watch("twice", ["a", "a", "b", "a"])
        self.assertEqual(desk.chances()["twice"], (5, 12))
        desk.drop("a")
        self.assertEqual([desk.chances()["twice"], desk.chances()["all"]], [(3, 4), (5, 12)])
        desk.change("c", 1)
        self.assertEqual(desk.chances(), {"all": (0, 1), "gone": (1, 1), "none": (1, 1), "twice": (3, 4), "w1": (0, 1),
                                          "w2": (1, 1)})

    def test_returns_none_and_is_no_deed(self):
        desk = Desk(HOUSE)
        self.assertIsNone(desk.watch("w", ["a"]))
        self.assertEqual(seen(caught(desk.undo)), ("NoDeed", {}))
        self.assertEqual(seen(caught(desk.again)), ("NoDeed", {}))
        desk.change("a", 0)
        desk.undo()
        # Neither watching nor its end takes away what can be done again.
        desk.watch("w2", ["a"])
        self.assertIsNone(desk.unwatch("w"))
        self.assertEqual(desk.again(), [("w2", (1, 1))])
        desk.watch("w", ["b"])
        self.assertEqual([desk.undo(), desk.chances()], [[("w2", (2, 3))], {"w": (3, 4), "w2": (2, 3)}])
        self.assertEqual(seen(caught(desk.undo)), ("NoDeed", {}))
        self.assertEqual(desk.chances(), {"w": (3, 4), "w2": (2, 3)})

    def test_wrong_words_and_names(self):
        desk = watching()
        before = state(desk)
        for thing in (*ODD_THINGS, "abcdefghi", "a_", ["w2"], ("w2",), "w2", "none", "gone"):
            error = caught(desk.watch, thing, ["a", "A", None])
            self.assertEqual(seen(error), ("BadName", {"name": thing}))
            self.assertEqual(error.name.__class__, thing.__class__)
        for thing in (*ODD_THINGS, "abcdefghi", ["a"], ("a",)):
            self.assertEqual(seen(caught(desk.watch, "new", ["a", "x", thing, "A"])), ("BadName", {"name": thing}))
            self.assertEqual(seen(caught(desk.watch, "new", (thing,))), ("BadName", {"name": thing}))
        for thing in (*ODD_THINGS, "new", "a", "w3", ["w2"], ("w2",), {"w2": 1}):
            error = caught(desk.unwatch, thing)
            self.assertEqual(seen(error), ("NoWatch", {"word": thing}))
            self.assertEqual(error.word.__class__, thing.__class__)
        self.assertEqual(state(desk), before)
        desk.unwatch("w2")
        self.assertEqual(seen(caught(desk.unwatch, "w2")), ("NoWatch", {"word": "w2"}))
        self.assertEqual(sorted(desk.chances()), ["all", "gone", "none", "w1"])
        desk.watch("w2", ["b"])
        self.assertEqual(desk.chances()["w2"], (3, 4))


class NewsTest(unittest.TestCase):

    def test_only_what_is_another_one(self):
        desk = watching()
        self.assertEqual(desk.change("a", (1, 2)), [("all", (1, 12)), ("w2", HALF)])
        self.assertEqual(desk.change("a", (2, 4)), [])
        self.assertEqual(desk.put("x", (1, 2)), [("gone", HALF), ("w1", (1, 3))])
        self.assertEqual(desk.tie("x", "c"), [("w1", (1, 6))])
        self.assertEqual(desk.tie("c", "x"), [])
        self.assertEqual(desk.drop("b"), [("all", (1, 3))])
        self.assertEqual(desk.undo(), [("all", (1, 12))])
        self.assertEqual([desk.undo(), desk.undo()], [[], [("w1", (1, 3))]])
        self.assertEqual([desk.undo(), desk.undo(), desk.undo()],
                         [[("gone", (1, 1)), ("w1", (2, 3))], [], [("all", (7, 36)), ("w2", (2, 3))]])
        self.assertEqual(seen(caught(desk.undo)), ("NoDeed", {}))
        self.assertEqual(desk.system(), HOUSE)
        self.assertEqual([desk.again() for _ in range(6)],
                         [[("all", (1, 12)), ("w2", HALF)], [], [("gone", HALF), ("w1", (1, 3))], [("w1", (1, 6))], [],
                          [("all", (1, 3))]])
        self.assertEqual(seen(caught(desk.again)), ("NoDeed", {}))

    def test_words_ascend(self):
        desk = Desk(HOUSE)
        for word in ("b", "a1", "z", "a", "a0", "b1"):
            desk.watch(word, ["a"])
        self.assertEqual(desk.change("a", 0), [(word, (1, 1)) for word in ("a", "a0", "a1", "b", "b1", "z")])
        self.assertEqual(list(desk.chances()), ["a", "a0", "a1", "b", "b1", "z"])

    def test_a_new_deed_bars_what_was_taken_back(self):
        desk = Desk(HOUSE)
        desk.drop("a")
        desk.drop("b")
        desk.undo()
        self.assertEqual(desk.untie("b", "c"), [])
        self.assertEqual(seen(caught(desk.again)), ("NoDeed", {}))
        desk.undo()
        # Also one that changes nothing.
        self.assertEqual(desk.change("c", (1, 3)), [])
        self.assertEqual(seen(caught(desk.again)), ("NoDeed", {}))
        self.assertEqual(desk.undo(), [])
        self.assertEqual(desk.system(), HOUSE - ["a"])
        desk.undo()
        self.assertEqual(seen(caught(desk.undo)), ("NoDeed", {}))
        self.assertEqual(desk.system(), HOUSE)

    def test_kinds(self):
        desk = watching()
        self.assertEqual(repr(desk.change("a", [0, 5])), "[('all', (5, 12)), ('w2', (1, 1))]")
        self.assertEqual(repr([desk.undo(), desk.again()]),
                         "[[('all', (7, 36)), ('w2', (2, 3))], [('all', (5, 12)), ('w2', (1, 1))]]")


def random_deed(chance, desk):
    """One call of a desk by chance, often one that raises an error: (method, what is told it)."""
    name, other = chance.choice("abcdeX"), chance.choice("abcdeX")
    share = chance.choice((random_share(chance), (chance.randint(0, 4), 20), long_share(chance, 9), (3, 2)))
    watched = chance.choice(("w", "v", "u", "W"))
    if len(desk.system()) > 4 and chance.random() < 0.5:
        return ("drop", name)
    return chance.choice((("put", name, share, [other]), ("put", name, share), ("drop", name), ("change", name, share),
                          ("tie", name, other), ("untie", name, other), ("undo",), ("undo",), ("again",), ("again",),
                          ("watch", watched, [name, other, "a"]), ("unwatch", watched)))


class Model:
    """A desk told anew: all systems in a list, and the place of the one that it has now."""

    def __init__(self, system):
        self.systems, self.at, self.watched = [system], 0, {}

    def chances(self):
        system = self.systems[self.at]
        return {word: least_chance(system, [name for name in names if name in system])
                for word, names in sorted(self.watched.items())}

    def act(self, method, *told):
        """What a call returns, or the class of the error that it raises."""
        before, system = self.chances(), self.systems[self.at]
        if method == "watch":
            if told[0] in self.watched or told[0] == "W" or "X" in told[1]:
                return "BadName"
            self.watched[told[0]] = told[1]
            return None
        if method == "unwatch":
            return None if self.watched.pop(told[0], None) is not None else "NoWatch"
        if method in ("undo", "again"):
            step = -1 if method == "undo" else 1
            if not 0 <= self.at + step < len(self.systems):
                return "NoDeed"
            self.at += step
        else:
            works = {"put": system.more, "drop": lambda name: system - [name], "change": system.changed,
                     "tie": system.tied,
                     "untie": system.untied}
            try:
                new = works[method](*told)
            except FaultError as error:
                return error.__class__.__name__
            self.systems = self.systems[:self.at + 1] + [new]
            self.at += 1
        return [(word, chance) for word, chance in self.chances().items() if chance != before[word]]


class ManyDeedsTest(unittest.TestCase):

    def test_against_a_model(self):
        chance, outcomes = by_chance(91), {}
        for _ in range(60):
            system = random_system(chance, "abcde"[:chance.randint(0, 5)])
            desk, model = Desk(system.scaled((1, 3))), Model(system.scaled((1, 3)))
            self.assertEqual([desk.watch("all", list("abcde")), model.act("watch", "all", list("abcde"))], [None, None])
            for _ in range(60):
                method, *told = random_deed(chance, desk)
                wanted = model.act(method, *told)
                if isinstance(wanted, str):
                    self.assertEqual(caught(getattr(desk, method), *told).__class__.__name__, wanted)
                else:
                    self.assertEqual(getattr(desk, method)(*told), wanted)
                key = (method, wanted if isinstance(wanted, str) else bool(wanted))
                outcomes[key] = outcomes.get(key, 0) + 1
                self.assertEqual(desk.system(), model.systems[model.at])
                self.assertEqual(repr(desk.chances()), repr(model.chances()))
        for key in (("undo", True), ("again", True), ("undo", "NoDeed"), ("again", "NoDeed"), ("tie", True),
                    ("put", "BadFault")):
            self.assertTrue(outcomes[key] > 5, outcomes)


class Thrown(Exception):
    pass


class TrialTest(unittest.TestCase):

    def some_state(self):
        """A desk with deeds done and deeds taken back."""
        desk = watching()
        desk.change("a", (1, 5))
        desk.tie("a", "c")
        desk.drop("c")
        desk.put("d", (1, 7), ["a"])
        desk.undo()
        desk.undo()
        return desk

    def test_it_returns_what_the_function_returns(self):
        desk = self.some_state()
        told = [1, {"a": 2}]
        self.assertIs(desk.trial(lambda given: given), desk)
        self.assertIs(desk.trial(lambda given: told), told)
        self.assertIsNone(desk.trial(lambda given: None))
        self.assertEqual(desk.trial(lambda given: [given.change("b", 0), given.undo()]),
                         [[("all", (7, 15))], [("all", (13, 60))]])

    def test_all_is_as_it_was(self):
        def deeds(told):
            told.drop("b")
            told.put("e", 0)

        def back(told):
            told.undo()
            told.undo()

        def again(told):
            told.again()

        def watches(told):
            told.unwatch("all")
            told.watch("all", ["c"])
            told.watch("new", ["b"])
            told.unwatch("w1")

        def much(told):
            for work in (again, deeds, watches, back, back, deeds, again):
                work(told)

        def nothing(told):
            told.drop("nobody")

        for work in (deeds, back, again, watches, much, nothing):
            desk = self.some_state()
            before = state(desk)
            self.assertEqual(before[0], 2)
            self.assertEqual(len(before[1]), 5)
            error = caught(desk.trial, work)
            self.assertIs(error is None, work not in (much, nothing))
            self.assertEqual(state(desk), before)

    def test_any_error_leaves_it(self):
        desk = self.some_state()
        before = state(desk)
        for kind in (Thrown, KeyError, ZeroDivisionError, KeyboardInterrupt, GeneratorExit):
            def work(told, kind=kind):
                told.undo()
                told.drop("a")
                told.unwatch("all")
                told.watch("new", ["b"])
                raise kind("it")
            with self.assertRaises(kind) as error:
                desk.trial(work)
            self.assertEqual(error.exception.args, ("it",))
            self.assertEqual(state(desk), before)

    def test_within_it_all_is_as_ever(self):
        def work(told):
            told.watch("new", ["a", "b"])
            news.extend([told.again(), told.again(), caught(told.again).__class__.__name__, told.drop("b")])
            news.extend([told.undo() for _ in range(5)])
            news.append(caught(told.undo).__class__.__name__)
            return told.system()

        news, desk = [], self.some_state()
        before = state(desk)
        self.assertEqual(desk.trial(work), HOUSE)
        self.assertEqual(news, [[("all", (11, 20)), ("w1", (1, 1))], [("all", (31, 70))], "NoDeed",
                                [("all", (23, 35)), ("new", (4, 5))], [("all", (31, 70)), ("new", (11, 20))],
                                [("all", (11, 20))], [("all", (13, 60)), ("w1", (2, 3))], [("all", (17, 60))],
                                [("all", (7, 36)), ("new", (5, 12)), ("w2", (2, 3))], "NoDeed"])
        self.assertEqual(state(desk), before)

    def test_one_within_another(self):
        seen_within = []

        def inner(told):
            told.drop("b")
            told.unwatch("all")
            seen_within.append((told.system(), sorted(told.chances())))
            raise Thrown("inner")

        def outer(told):
            told.undo()
            told.watch("new", ["c"])
            middle = state(told)
            with self.assertRaises(Thrown):
                told.trial(inner)
            self.assertEqual(state(told), middle)
            seen_within.append((told.system(), sorted(told.chances())))
            self.assertEqual(told.trial(lambda given: given.again()), [("all", (13, 60))])
            self.assertEqual(state(told), middle)
            told.drop("c")
            return told.trial(lambda given: given.trial(lambda last: last.undo()))

        desk = self.some_state()
        before = state(desk)
        self.assertEqual(desk.trial(outer), [("all", (17, 60)), ("new", (2, 3)), ("w1", (2, 3))])
        self.assertEqual(state(desk), before)
        words = ["all", "gone", "none", "w1", "w2"]
        self.assertEqual(seen_within, [(HOUSE.changed("a", (1, 5)) - ["b"], ["gone", "new", "none", "w1", "w2"]),
                                       (HOUSE.changed("a", (1, 5)), sorted([*words, "new"]))])

    def test_against_deeds_by_chance(self):
        chance = by_chance(92)

        def work(told):
            for _ in range(chance.randint(1, 12)):
                if chance.random() < 0.15:
                    caught(told.trial, work)
                method, *rest = random_deed(chance, told)
                caught(getattr(told, method), *rest)
            if chance.random() < 0.3:
                raise ValueError
        for _ in range(40):
            desk = Desk(random_system(chance, "abcde"[:chance.randint(0, 5)]))
            for _ in range(20):
                method, *told = random_deed(chance, desk)
                caught(getattr(desk, method), *told)
            before = state(desk)
            caught(desk.trial, work)
            self.assertEqual(state(desk), before)


if __name__ == "__main__":
    unittest.main()
