import unittest

from codepick.chooser import states
from codepick.endless import finite
from codepick.errors import (BadLine, Endless, ManyForms, NoArguments, NoCover, NoOperator, NothingDone, NothingRead,
                             TooMany)
from codepick.needless import needless
from codepick.readers import Keeping
from codepick.sessions import Session
from codepick.texts import machine_text, read_tree
from samples import NEAR, NEAR_TREE, SMALL, WIDE, chance, counters, machine_for, unshared, wrong_values

FIRST = ((0,), 1, ((0, 0, (), 1),), ())
NEAR_LINE = ("machine forms 2 / operators 0 2 / 0 <- 0: at 1 / 1 <- 0: at 0 / 0 <- 1: 1 1 at 0 / 1 <- 1: 0 0 at 1"
             " / 0 <- 1: 0 0 at 0")
GROWING = counters((None,), (1, (1,)))
CROWD = counters((None, None), (1, 2))
QUESTIONS = ("prices", "tree", "code", "states", "finite", "needless")


def line_of(machine):
    return "machine " + machine_text(machine)[:-1].replace("\n", " / ")


def session_of(machine, *operators):
    session = Session()
    session.say(line_of(machine))
    if operators:
        session.say(" ".join(["feed"] + [str(operator) for operator in operators]))
    return session


def told(session):
    """What the session answers to all questions, errors by their names."""
    found = []
    for line in QUESTIONS:
        try:
            found.append(session.say(line))
        except (NothingRead, NoCover, TooMany, Endless, ManyForms) as error:
            found.append(error.__class__.__name__)
    return found


class Lines(unittest.TestCase):
    def says(self, session, *rows):
        for line, expected in rows:
            self.assertEqual(session.say(line), expected, line)

    def test_first_machine(self):
        session = Session()
        self.assertEqual(told(session), told(session_of(FIRST)))
        self.assertRaises(NothingRead, session.say, "prices")
        self.says(
            session, ("states", "1"), ("finite", "finite 0"), ("needless", "none"), ("feed 0", "ok"), ("prices", "1"),
            ("tree", "0"), ("code", "i0"), ("feed 0 0", "ok"), ("undo", "ok"), ("undo", "ok"),
        )
        self.assertRaises(NothingRead, session.say, "tree")
        self.assertRaises(NothingDone, session.say, "undo")
        self.assertRaises(NoOperator, session.say, "feed 1")

    def test_near(self):
        self.assertEqual(line_of(NEAR), NEAR_LINE)
        session = Session()
        self.says(
            session, (NEAR_LINE, "ok"), ("feed 0 0 1", "ok"), ("prices", "0 3"), ("feed 0 1", "ok"), ("prices", "1 2"),
            ("tree", "0 ; 0 ; 1 0 1 ; 0 ; 1 2 3"), ("code", "i1 i1 i2 i0 i4"), ("states", "3"), ("finite", "finite 3"),
            ("needless", "3"), ("undo", "ok"), ("prices", "0 3"), ("code", "i1 i1 i2"), ("undo", "ok"),
        )
        self.assertRaises(NothingRead, session.say, "prices")
        self.assertRaises(NothingDone, session.say, "undo")

    def test_answers_are_texts(self):
        session = session_of(NEAR, 0, 0, 1)
        for line in QUESTIONS + ("feed 0", "undo", NEAR_LINE):
            self.assertIsInstance(session.say(line), str)
        self.assertEqual(Session().say(line="states"), "1")

    def test_asked_twice(self):
        session = session_of(NEAR, 0, 0, 1, 0)
        self.assertEqual(told(session), told(session))

    def test_prices(self):
        machine = (0, 0), 4, ((1, 0, (), 20), (2, 0, (), 0)), ((2, 3, 11),)
        session = session_of(machine, 0)
        self.says(session, ("prices", "- 20 0 11"), ("feed 1", "ok"), ("prices", "- - - -"), ("undo", "ok"),
                  ("prices", "- 20 0 11"))
        self.assertRaises(NoCover, session.say, "code")
        self.assertEqual(session.say("tree"), "0")

    def test_code_with_ways(self):
        machine = (0, 1), 3, ((2, 0, (), 1), (2, 1, (1,), 2)), ((2, 1, 4), (1, 0, 0))
        self.assertEqual(session_of(machine, 0, 1).say("code"), "i0 c2 i1 c2 c3")

    def test_several_needless(self):
        machine = (0,), 2, ((0, 0, (), 1), (0, 0, (), 1), (1, 0, (), 5)), ((1, 0, 0),)
        self.assertEqual(session_of(machine).say("needless"), "0 1 2 3")
        self.assertEqual(session_of(((0,), 1, (), ())).say("needless"), "none")
        self.assertEqual(session_of(((0,), 1, (), ())).say("states"), "1")

    def test_endless(self):
        session = session_of(GROWING, 0, 1, 1)
        self.says(session, ("finite", "endless"), ("prices", "0 2"), ("tree", "0 ; 1 0 ; 1 1"))
        for line in ("states", "needless"):
            self.assertRaises(Endless, session.say, line)

    def test_what_the_functions_raise(self):
        session = session_of(CROWD)
        self.assertRaises(ManyForms, session.say, "finite")
        self.too_many(session, "states", 201, 200)
        self.too_many(session, "needless", 201, 200)
        self.too_many(session_of(counters((4, 7), (1, 2), (0,))), "needless", 41, 40)
        session = session_of(NEAR)
        for line in ("prices", "tree", "code"):
            self.assertRaises(NothingRead, session.say, line)
        self.assertRaises(NothingDone, session.say, "undo")
        self.assertRaises(NoArguments, session.say, "feed 1")
        self.assertRaises(NoArguments, session.say, "feed 0 1 7")
        self.assertRaises(NoOperator, session.say, "feed 0 0 7 1 1")
        session = session_of(((0, 1), 1, ((0, 0, (), 0), (0, 1, (0,), 1)), ()), 0, *[1] * 39)
        self.assertEqual(session.say("code"), "i0" + " i1" * 39)
        session.say("feed 1")
        self.too_many(session, "code", 41, 40)

    def too_many(self, session, line, amount, limit):
        with self.assertRaises(TooMany) as caught:
            session.say(line)
        self.assertEqual((caught.exception.amount, caught.exception.limit), (amount, limit))

    def test_feed_is_one_deed(self):
        session = session_of(NEAR)
        for line in ("feed 0", "feed 0 1 0", "feed 1"):
            session.say(line)
        self.says(session, ("prices", "1 2"), ("undo", "ok"), ("prices", "1 0"), ("undo", "ok"), ("tree", "0"),
                  ("undo", "ok"))
        self.assertRaises(NothingDone, session.say, "undo")

    def test_a_new_machine(self):
        """Nothing of the parts and deeds before is left."""
        session = session_of(NEAR, 0, 0)
        self.assertEqual(session.say(line_of(WIDE)), "ok")
        self.assertRaises(NothingDone, session.say, "undo")
        self.assertRaises(NothingRead, session.say, "tree")
        self.says(session, ("feed 0 3 5", "ok"), ("tree", "0 ; 3 ; 5 0 1"), (NEAR_LINE, "ok"))
        self.assertRaises(NothingRead, session.say, "prices")
        # The same machine makes a new Keeping, too.
        session = session_of(NEAR, 0)
        session.say(NEAR_LINE)
        self.assertRaises(NothingDone, session.say, "undo")

    def test_sessions_have_nothing_in_common(self):
        one, other = Session(), Session()
        one.say(NEAR_LINE)
        one.say("feed 0 0 1")
        self.assertEqual(other.say("states"), "1")
        self.assertRaises(NothingRead, other.say, "prices")
        self.assertEqual(Session().say("feed 0"), "ok")

    def test_operators_that_the_machine_does_not_have(self):
        session = session_of(NEAR, 0)
        before = told(session)
        for line in ("feed 2", "feed 9", "feed 0 2", "feed " + "9" * 20, "feed 10 0", "feed 0 0 1 1 6 1 1 1"):
            self.assertRaises(NoOperator, session.say, line)
            self.assertEqual(told(session), before)

    def test_against_the_functions(self):
        for seed in range(60):
            dice = chance(seed)
            machine = machine_for(dice, (0, 1, 2, 0), 1 + seed % 4, dice.randint(4, 9), dice.randint(0, 4), 3)
            session, keeping = session_of(machine), Keeping(machine)
            for number in range(8):
                fitting = [operator for operator, arity in enumerate(machine[0]) if arity <= keeping.height]
                operator = dice.choice(fitting)
                keeping.feed(operator)
                self.assertEqual(session.say(f"feed {operator}"), "ok")
                row = ["-" if price is None else str(price) for price in keeping.prices]
                self.assertEqual(session.say("prices"), " ".join(row))
                self.assertEqual(unshared(read_tree(machine[0], session.say("tree"))), unshared(keeping.tree))
                if keeping.prices[0] is not None:
                    self.assertEqual(session.say("code"), " ".join(keeping.code()))
            self.check_machine(session, machine)

    def check_machine(self, session, machine):
        try:
            self.assertEqual(session.say("states"), str(len(states(machine))))
            numbers = [str(number) for number in needless(machine)] if len(states(machine)) <= 40 else None
            if numbers is not None:
                self.assertEqual(session.say("needless"), " ".join(numbers) or "none")
        except (Endless, TooMany) as error:
            self.assertRaises(error.__class__, session.say, "states")
        if machine[1] <= 2:
            word, shown = finite(machine)
            self.assertEqual(session.say("finite"), f"finite {shown}" if word == "finite" else "endless")


class LinesThatAreNone(unittest.TestCase):
    def bad(self, session, line):
        before = told(session)
        self.assertRaises(BadLine, session.say, line)
        self.assertEqual(told(session), before)

    def test_values(self):
        session = session_of(NEAR, 0, 0, 1)
        for wrong in wrong_values() + [None, NEAR, NEAR_TREE, ("undo",), ["undo"], {"undo": 0}, b"undo", BadLine("undo")]:
            self.bad(session, wrong)

    def test_words(self):
        session = session_of(NEAR, 0, 0, 1)
        for word in ("undo",) + QUESTIONS:
            for line in (word + " ", " " + word, word + "\n", word.upper(), word.title(), word + " 0", word + " " + word,
                         word + "  ", word[:-1], word + "s", "\n" + word, word + "\t", word + "\r", word + " none"):
                self.bad(session, line)
        for line in ("", " ", "  ", "\n", "ok", "quit", "help", "say", "feed_all 0", "height", "keeping", "__init__", "undo undo"):
            self.bad(session, line)

    def test_feed(self):
        session = session_of(NEAR, 0, 0, 1)
        for line in (
            "feed", "feed ", "feed  0", "feed 0 ", " feed 0", "feed 0  0", "feed 0\n", "feed\n0", "feed 0\n0", "feed 00",
            "feed 01", "feed -1", "feed -0", "feed +0", "feed 0.0", "feed a", "feed 0 a", "feed 0,0", "feed 0, 0", "feed 1_0",
            "feed \u0660", "feed \u00b2", "feed 0\u00a00", "feed\u00a00", "feed\t0", "feed 0\t0", "Feed 0", "FEED 0", "feeds 0",
            "feed " + "1" * 21, "feed " + "9" * 21, "feed " + "0" * 20, "feed 0 " + "1" * 21, "feed i0", "feed (0,)", "feed None",
            "feed 2 ", "feed 1 1 1 x", "feed 9 01",
        ):
            self.bad(session, line)

    def test_machines(self):
        session = session_of(NEAR, 0, 0, 1)
        text = machine_text(SMALL)[:-1]
        self.assertEqual(line_of(SMALL), "machine " + text.replace("\n", " / "))
        for line in (
            "machine", "machine ", "machine  " + text.replace("\n", " / "), "machine " + text, "machine " + text + "\n",
            line_of(SMALL) + "\n", line_of(SMALL) + " / ", line_of(SMALL) + " /", line_of(SMALL) + " ", " " + line_of(SMALL),
            line_of(SMALL).replace(" / ", "/"), line_of(SMALL).replace(" / ", " /  "), line_of(SMALL).replace(" / ", "  / "),
            line_of(SMALL).replace(" / ", "\n", 1), line_of(SMALL).replace(" / ", " // "),
            line_of(SMALL).replace(" / ", " /  / "), line_of(SMALL).replace(" / ", " / / "), line_of(SMALL).replace("1", "01"),
            line_of(SMALL).replace("forms 1", "forms 5"), line_of(SMALL).replace("at 0", "at 21"),
            line_of(SMALL).replace("at 0", "at " + "0" * 21), line_of(SMALL).replace("at 0", "at " + "1" * 21),
            line_of(SMALL).upper(), line_of(SMALL).title(), line_of(SMALL).replace("machine", "machines"), "machine / ",
            "machine forms 1", "machine operators 0", "machine forms 1 /", "machine / forms 1 / operators 0",
            "machine operators 0 / forms 1", "machine forms 1 / operators 3", "machine forms 1 / operators 0 / 0 <- 0 at 0",
            "machine " + repr(SMALL),
        ):
            self.bad(session, line)
        self.assertEqual(session.say("machine forms 1 / operators 0"), "ok")
        self.assertEqual(session.say(line_of(WIDE)), "ok")

    def test_ahead_of_all_else(self):
        """A line that is none is refused as such, whatever else is wrong."""
        session = Session()
        for line in ("undo ", "prices 1", "feed 9 ", "feed 1 01", "tree\n", "code  ", "feed 7 x"):
            self.assertRaises(BadLine, session.say, line)
        session = session_of(GROWING)
        for line in ("states ", "needless 0"):
            self.assertRaises(BadLine, session.say, line)

    def test_nothing_is_changed_when_refused(self):
        session = session_of(NEAR, 0, 0)
        before = told(session)
        for error, line in (
            (NoArguments, "feed 1 1"), (NoOperator, "feed 1 0 2"), (BadLine, "feed 1 0 x"), (BadLine, "machine forms 1"),
            (NoOperator, "feed 4"), (BadLine, "undo 1"),
        ):
            self.assertRaises(error, session.say, line)
            self.assertEqual(told(session), before)
        self.assertEqual(session.say("undo"), "ok")
        self.assertRaises(NothingDone, session.say, "undo")


if __name__ == "__main__":
    unittest.main()
