"""What a Desk does with valid arguments."""

import inspect
import itertools
import random
import unittest

from tests.samples import BOXES, GREATEST, LEAST, RULED_2, Calls
from threevalues.boxes import Box
from threevalues.desks import Desk
from threevalues.errors import Broken, InUse, NothingToUndo
from threevalues.making import kept, one_place, unlike
from threevalues.mends import fault

METHODS = {
    "put": ("name", "box"), "named": ("name",), "drop": ("name",), "wish": ("wish",), "lift": ("index",),
    "undo": (), "trial": (), "tried": ("action",),
}
PROPERTIES = ("names", "wishes", "changes")
MAX = "max " + GREATEST
PAIR, WEBB, TWO = Box(MAX, "up 120"), Box("webb 120220000"), Box(MAX, "swap 210")


def state(desk):
    """What a desk tells of itself."""
    return desk.names, tuple(desk.named(name).rows for name in desk.names), desk.wishes, desk.changes, len(desk)


def shown_of(boxes, wish):
    """What a wish of a desk with these boxes shows, None if it holds."""
    if len(wish) == 3:
        return fault(boxes[wish[1]], ("alike", boxes[wish[2]]))
    return fault(boxes[wish[0]], wish[1])


def desk_of(boxes, wishes=()):
    """A desk with these boxes and wishes."""
    desk = Desk()
    for name, box in boxes.items():
        desk.put(name, box)
    for wish in wishes:
        desk.wish(wish)
    return desk


class Desks(Calls):
    def tells(self, desk, boxes, wishes, changes):
        """That the desk tells what is due for these boxes, wishes and number of changes."""
        self.assertEqual(desk.names, tuple(sorted(boxes)))
        self.assertEqual(desk.wishes, tuple(wishes))
        self.assertEqual(desk.changes, changes)
        self.assertEqual(len(desk), len(boxes))
        self.assertEqual([type(x) for x in (desk.names, desk.wishes, desk.changes)], [tuple, tuple, int])
        for name in boxes:
            self.assertIs(desk.named(name), boxes[name])
        for wish in wishes:
            self.assertIsNone(shown_of(boxes, wish))
        self.assertIs(bool(desk), True)

    def broken(self, index, shown, method, *passed):
        """That the call raises Broken with just this."""
        with self.assertRaises(Broken) as caught:
            method(*passed)
        self.assertIs(type(caught.exception), Broken)
        self.assertEqual((caught.exception.index, caught.exception.shown), (index, shown))
        self.assertIs(type(caught.exception.shown), type(shown))
        self.assertIs(type(caught.exception.index), int)


class Interface(Desks):
    def test_names_and_parameters(self):
        self.assertEqual(Desk.__module__, "threevalues.desks")
        for name, told in METHODS.items():
            self.assertIn(name, vars(Desk))
            self.parameters(getattr(Desk(), name), told)
        for name in (*PROPERTIES, "__len__", "__bool__"):
            self.assertIn(name, vars(Desk))
        self.assertEqual(len(inspect.signature(Desk).parameters), 0)

    def test_by_name(self):
        desk = Desk()
        self.assertIsNone(desk.put(box=PAIR, name="lab"))
        self.assertIsNone(desk.wish(wish=("lab", ("all",))))
        self.assertIs(desk.named(name="lab"), PAIR)
        self.assertIsNone(desk.lift(index=0))
        self.assertIsNone(desk.drop(name="lab"))
        self.assertEqual(desk.tried(action=len), 0)
        self.tells(desk, {}, (), 4)

    def test_example(self):
        desk = Desk()
        self.assertIsNone(desk.put("lab", PAIR))
        self.assertIsNone(desk.wish(("lab", ("all",))))
        got = [desk.names, desk.wishes, desk.changes, desk.tried(len)]
        self.assertEqual(got, [("lab",), (("lab", ("all",)),), 2, 1])
        self.broken(0, ("set 1", "set 02", "centre 1"), desk.put, "lab", TWO)
        self.tells(desk, {"lab": PAIR}, (("lab", ("all",)),), 2)

    def test_a_new_desk(self):
        self.tells(Desk(), {}, (), 0)
        self.assertTrue(Desk())

    def test_desks_are_not_equal(self):
        for x in (Desk(), Box(), (), None, 0, "", False, [], {}, object()):
            self.assertIs(Desk() == x, False)
            self.assertIs(Desk() != x, True)


class Changes(Desks):
    def test_names_of_one_to_eight_letters(self):
        desk, boxes = Desk(), {}
        for name in ("z", "abcdefgh", "aa", "m", "all", "alike", "zzzzzzzz", "a"):
            boxes[name] = BOXES[len(boxes)]
            self.assertIsNone(desk.put(name, boxes[name]))
            self.tells(desk, boxes, (), len(boxes))

    def test_putting_in_the_place_of_another_one(self):
        desk = desk_of({"lab": PAIR})
        desk.put("lab", TWO)
        self.tells(desk, {"lab": TWO}, (), 2)
        desk.put("lab", TWO)
        self.tells(desk, {"lab": TWO}, (), 3)
        for changes, box in ((2, TWO), (1, PAIR)):
            self.assertIsNone(desk.undo())
            self.tells(desk, {"lab": box}, (), changes)
        desk.undo()
        self.tells(desk, {}, (), 0)

    def test_the_same_again_counts_and_is_taken_back_one_by_one(self):
        wish = ("lab", ("leaves", "turn"))
        desk = desk_of({"lab": TWO}, (wish, wish, wish))
        desk.put("lab", TWO)
        self.tells(desk, {"lab": TWO}, (wish,) * 3, 5)
        desk.undo()
        for many in (2, 1, 0):
            desk.undo()
            self.tells(desk, {"lab": TWO}, (wish,) * many, many + 1)
        desk.undo()
        self.nothing_to_undo(desk)

    def nothing_to_undo(self, desk):
        for _ in range(2):
            with self.assertRaises(NothingToUndo) as caught:
                desk.undo()
            self.assertIs(type(caught.exception), NothingToUndo)
            self.tells(desk, {}, (), 0)

    def test_nothing_to_undo(self):
        desk = Desk()
        self.nothing_to_undo(desk)
        desk.put("a", PAIR)
        desk.drop("a")
        desk.undo()
        self.tells(desk, {"a": PAIR}, (), 1)
        desk.undo()
        self.nothing_to_undo(desk)

    def test_lifting(self):
        wishes = tuple(("lab", ("leaves", word)) for word in ("set 0", "turn", "sums", "set 1"))
        for index in range(4):
            desk = desk_of({"lab": PAIR}, wishes)
            self.assertIsNone(desk.lift(index))
            left = wishes[:index] + wishes[index + 1:]
            self.tells(desk, {"lab": PAIR}, left, 6)
            desk.undo()
            self.tells(desk, {"lab": PAIR}, wishes, 5)

    def test_dropping(self):
        desk = desk_of({"b": PAIR, "a": TWO, "c": Box()}, (("b", ("all",)),))
        self.assertIsNone(desk.drop("a"))
        self.tells(desk, {"b": PAIR, "c": desk.named("c")}, (("b", ("all",)),), 5)
        desk.undo()
        self.assertIs(desk.named("a"), TWO)
        self.raised_at(InUse, 0, desk.drop, "b")
        desk.lift(0)
        desk.drop("b")
        self.assertEqual((desk.names, desk.wishes, desk.changes), (("a", "c"), (), 6))

    def test_in_use_tells_the_first_wish_that_has_the_name(self):
        wishes = (("a", ("all",)), ("alike", "b", "c"), ("alike", "c", "b"), ("d", ("leaves", "set 1")))
        desk = desk_of({"a": PAIR, "b": TWO, "c": Box(*TWO.rows[::-1]), "d": PAIR, "e": TWO, "alike": TWO}, wishes)
        before = state(desk)
        for name, index in (("a", 0), ("b", 1), ("c", 1), ("d", 3)):
            self.raised_at(InUse, index, desk.drop, name)
            self.raised_at(InUse, index, desk.drop, name=name)
        self.assertEqual(state(desk), before)
        desk.lift(1)
        self.raised_at(InUse, 1, desk.drop, "c")
        self.raised_at(InUse, 1, desk.drop, "b")
        # The word of a wish about two names is no name in it.
        desk.drop("alike")
        desk.drop("e")

    def test_two_desks_with_the_same_names(self):
        one, other = desk_of({"lab": PAIR}), desk_of({"lab": TWO})
        one.wish(("lab", ("all",)))
        other.put("lab", WEBB)
        one.put("lab", WEBB)
        other.put("lab", TWO)
        self.tells(one, {"lab": WEBB}, (("lab", ("all",)),), 3)
        self.tells(other, {"lab": TWO}, (), 3)
        one.undo()
        other.drop("lab")
        self.tells(one, {"lab": PAIR}, (("lab", ("all",)),), 2)
        self.tells(other, {}, (), 4)

    def test_in_turns(self):
        boxes = (
            PAIR, TWO, WEBB, Box(), Box("up 120"), Box("down 201"), Box("a 012", "b " + LEAST), Box("s " + RULED_2[2]),
        )
        kinds = (
            ("all",), ("keeps", "set 1"), ("leaves", "set 1"), ("keeps", "turn"), ("leaves", "turn"), ("makes", "120"),
            ("makes", "012"), ("unlike", PAIR), ("alike", Box("low 201")), ("keeps", "mixed"), ("leaves", "mixed"),
        )
        names, seen = ("a", "lab", "x"), set()
        for seed in range(12):
            draw, desk, history = random.Random(seed), Desk(), [({}, ())]
            for _ in range(60):
                seen.add(self.one_turn(draw, desk, history, names, boxes, kinds))
                self.tells(desk, *history[-1], len(history) - 1)
            while len(history) > 1:
                desk.undo()
                history.pop()
                self.tells(desk, *history[-1], len(history) - 1)
            self.nothing_to_undo(desk)
        told = {(word, done) for word in ("put", "wish", "alike", "drop") for done in (True, False)}
        self.assertEqual(seen, told | {("lift", True), ("undo", True)})

    def one_turn(self, draw, desk, history, names, boxes, kinds):
        """One change that is drawn, of the desk and of the history beside it; its word, and whether it is done."""
        now, wishes = history[-1]
        word = draw.choice(("put", "put", "put", "wish", "wish", "alike", "drop", "lift", "undo"))
        if word == "undo" and len(history) > 1:
            desk.undo()
            history.pop()
            return word, True
        if word == "lift" and wishes:
            at = draw.randrange(len(wishes))
            desk.lift(at)
            history.append((now, wishes[:at] + wishes[at + 1:]))
            return word, True
        if word == "drop" and now:
            return word, self.drop(desk, history, draw.choice(sorted(now)))
        if word in ("wish", "alike") and now:
            wish = (draw.choice(sorted(now)), draw.choice(kinds))
            if word == "alike":
                wish = ("alike", draw.choice(sorted(now)), draw.choice(sorted(now)))
            return word, self.wish(desk, history, wish)
        return "put", self.put(desk, history, draw.choice(names), draw.choice(boxes))

    def drop(self, desk, history, name):
        now, wishes = history[-1]
        uses = [at for at, wish in enumerate(wishes) if name in (wish[1:] if len(wish) == 3 else wish[:1])]
        if uses:
            self.raised_at(InUse, uses[0], desk.drop, name)
        else:
            self.assertIsNone(desk.drop(name))
            history.append(({other: box for other, box in now.items() if other != name}, wishes))
        return not uses

    def wish(self, desk, history, wish):
        now, wishes = history[-1]
        shown = shown_of(now, wish)
        if shown is not None:
            self.broken(len(wishes), shown, desk.wish, wish)
        else:
            self.assertIsNone(desk.wish(wish))
            history.append((now, (*wishes, wish)))
        return shown is None

    def put(self, desk, history, name, box):
        now, wishes = history[-1]
        then = {**now, name: box}
        shown = [(at, shown_of(then, wish)) for at, wish in enumerate(wishes)]
        wrong = [each for each in shown if each[1] is not None]
        if wrong:
            self.broken(*wrong[0], desk.put, name, box)
        else:
            self.assertIsNone(desk.put(name, box))
            history.append((then, wishes))
        return not wrong


class Wishes(Desks):
    def test_each_kind_of_wish(self):
        for box, other in itertools.product(BOXES[:12:2], (PAIR, BOXES[2], Box())):
            kinds = (
                ("all",), ("keeps", "turn"), ("leaves", "turn"), ("makes", "120"), ("alike", other), ("unlike", other),
            )
            for kind in kinds:
                desk = desk_of({"lab": box, "too": box})
                shown = fault(box, kind)
                if shown is None:
                    self.assertIsNone(desk.wish(("lab", kind)))
                    self.tells(desk, {"lab": box, "too": box}, (("lab", kind),), 3)
                else:
                    self.broken(0, shown, desk.wish, ("lab", kind))
                    self.tells(desk, {"lab": box, "too": box}, (), 2)

    def test_what_is_shown(self):
        desk = desk_of({"lab": PAIR, "two": TWO, "none": Box()})
        for wish, shown in (
            (("two", ("all",)), kept(TWO)), (("lab", ("keeps", "set 0")), ("up", ((0,),))),
            (("two", ("leaves", "set 1")), ("max", "swap")), (("two", ("makes", "111")), one_place(TWO)),
            (("lab", ("unlike", WEBB)), "alike"), (("lab", ("alike", TWO)), "set 1"),
            (("alike", "lab", "two"), "set 1"), (("alike", "none", "two"), unlike(Box(), TWO)),
            (("none", ("leaves", "turn")), ()),
        ):
            self.broken(0, shown, desk.wish, wish)
        self.tells(desk, {"lab": PAIR, "two": TWO, "none": desk.named("none")}, (), 3)

    def test_wishes_about_two_names(self):
        back = Box(*PAIR.rows[::-1])
        boxes = {"a": PAIR, "b": back, "c": WEBB}
        wishes = (("alike", "a", "b"), ("alike", "c", "a"), ("alike", "b", "b"))
        desk = desk_of(boxes, wishes)
        self.tells(desk, boxes, wishes, 6)
        self.broken(0, unlike(PAIR, TWO), desk.put, "b", TWO)
        self.broken(1, unlike(TWO, PAIR), desk.put, "c", TWO)
        self.broken(0, unlike(TWO, back), desk.put, "a", TWO)
        desk.put("c", PAIR)
        desk.put("a", WEBB)
        self.tells(desk, {"a": WEBB, "b": back, "c": PAIR}, wishes, 8)

    def test_shown_is_told_of_the_first_name(self):
        one, other = Box("a 000"), Box("a 000", "b 111")
        desk = desk_of({"a": one, "b": other})
        for first, second in (("a", "b"), ("b", "a")):
            shown = fault(desk.named(first), ("alike", desk.named(second)))
            self.broken(0, shown, desk.wish, ("alike", first, second))

    def test_a_box_with_the_same_tables_in_another_place(self):
        # Broken tells the first wish in their order, not the first that has the name.
        wishes = (("b", ("all",)), ("a", ("leaves", "set 1")), ("a", ("all",)), ("alike", "a", "b"))
        desk = desk_of({"a": PAIR, "b": PAIR}, wishes)
        self.broken(1, ("max", "swap"), desk.put, "a", TWO)
        self.broken(0, kept(TWO), desk.put, "b", TWO)
        desk.lift(0)
        self.broken(2, "set 1", desk.put, "b", TWO)
        desk.lift(0)
        self.broken(0, kept(TWO), desk.put, "a", TWO)

    def test_a_name_may_be_a_word_of_wishes(self):
        desk = desk_of({"alike": PAIR, "all": WEBB, "keeps": TWO})
        wishes = (
            ("alike", ("all",)), ("all", ("makes", "120")), ("keeps", ("keeps", "set 1")), ("alike", "all", "alike"),
        )
        for wish in wishes:
            self.assertIsNone(desk.wish(wish))
        self.assertEqual(desk.wishes, wishes)


class Trials(Desks):
    def test_trials_that_end_well(self):
        desk = desk_of({"lab": PAIR})
        with desk.trial() as held:
            self.assertIs(held, desk)
            desk.put("two", TWO)
            desk.wish(("two", ("keeps", "set 1")))
        wishes = (("two", ("keeps", "set 1")),)
        self.tells(desk, {"lab": PAIR, "two": TWO}, wishes, 3)
        desk.undo()
        self.tells(desk, {"lab": PAIR, "two": TWO}, (), 2)

    def test_trials_that_end_with_an_exception(self):
        for kind in (KeyError, Broken, ZeroDivisionError, NothingToUndo, KeyboardInterrupt, GeneratorExit, SystemExit):
            desk = desk_of({"lab": PAIR, "two": TWO}, (("lab", ("all",)),))
            before = state(desk)
            error = kind(0, ()) if kind is Broken else kind()
            with self.assertRaises(kind) as caught:
                with desk.trial():
                    desk.put("new", WEBB)
                    desk.lift(0)
                    desk.drop("two")
                    desk.put("lab", TWO)
                    raise error
            self.assertIs(caught.exception, error)
            self.assertEqual(state(desk), before)
            self.assertIs(desk.named("lab"), PAIR)

    def test_changes_that_are_taken_back_within_a_trial(self):
        for raising in (False, True):
            desk = desk_of({"lab": PAIR, "two": TWO}, (("lab", ("all",)),))
            before = state(desk)
            try:
                with desk.trial():
                    for _ in range(3):
                        desk.undo()
                    desk.put("x", WEBB)
                    if raising:
                        desk.undo()
                        desk.undo()
            except NothingToUndo:
                self.assertTrue(raising)
            if raising:
                self.assertEqual(state(desk), before)
                desk.undo()
                self.tells(desk, {"lab": PAIR, "two": TWO}, (), 2)
            else:
                self.tells(desk, {"x": WEBB}, (), 1)

    def test_trials_within_trials(self):
        for inner, outer in itertools.product((False, True), repeat=2):
            desk = desk_of({"a": PAIR})
            boxes, changes = {"a": PAIR}, 1
            try:
                with desk.trial():
                    desk.put("b", TWO)
                    self.inner_rows(desk, desk.trial(), inner)
                    then = {"a": PAIR, "b": TWO} if inner else {"a": PAIR, "b": TWO, "c": WEBB}
                    self.tells(desk, then, (), len(then))
                    desk.put("d", WEBB)
                    if outer:
                        raise KeyError("outer")
                boxes, changes = {**then, "d": WEBB}, len(then) + 1
            except KeyError:
                self.assertTrue(outer)
            self.tells(desk, boxes, (), changes)

    def inner_rows(self, desk, trial, raising):
        """A trial whose rows put a box, and end with an exception or well."""
        try:
            with trial as held:
                self.assertIs(held, desk)
                desk.put("c", WEBB)
                if raising:
                    raise ValueError("inner")
        except ValueError:
            self.assertTrue(raising)

    def test_one_object_within_itself(self):
        for inner, outer in itertools.product((False, True), repeat=2):
            desk = desk_of({"a": PAIR})
            trial = desk.trial()
            try:
                with trial:
                    desk.put("b", TWO)
                    self.inner_rows(desk, trial, inner)
                    self.inner_rows(desk, trial, True)
                    desk.put("d", WEBB)
                    if outer:
                        raise KeyError("outer")
            except KeyError:
                self.assertTrue(outer)
            boxes = {"a": PAIR}
            if not outer:
                boxes = {"a": PAIR, "b": TWO, "d": WEBB}
                if not inner:
                    boxes["c"] = WEBB
            self.tells(desk, boxes, (), len(boxes))
            # The same object once more, behind its rows.
            self.inner_rows(desk, trial, True)
            self.tells(desk, boxes, (), len(boxes))

    def test_one_object_three_deep(self):
        for raising in range(4):
            desk = desk_of({"a": PAIR})
            trial = desk.trial()
            try:
                with trial:
                    desk.put("b", PAIR)
                    try:
                        with trial:
                            desk.put("c", PAIR)
                            try:
                                with trial:
                                    desk.put("d", PAIR)
                                    if raising == 3:
                                        raise KeyError
                            except KeyError:
                                self.assertEqual(desk.names, ("a", "b", "c"))
                            if raising == 2:
                                raise KeyError
                    except KeyError:
                        self.assertEqual(desk.names, ("a", "b"))
                    if raising == 1:
                        raise KeyError
            except KeyError:
                self.assertEqual(desk.names, ("a",))
            self.assertEqual("".join(desk.names), {0: "abcd", 1: "a", 2: "ab", 3: "abc"}[raising])

    def test_a_trial_begins_when_its_rows_do(self):
        desk = Desk()
        trial = desk.trial()
        desk.put("a", PAIR)
        self.inner_rows(desk, trial, True)
        self.tells(desk, {"a": PAIR}, (), 1)

    def test_refused_changes_within_a_trial(self):
        desk = desk_of({"lab": PAIR}, (("lab", ("all",)),))
        with desk.trial():
            desk.put("new", WEBB)
            self.broken(0, kept(TWO), desk.put, "lab", TWO)
            desk.put("more", TWO)
        self.tells(desk, {"lab": PAIR, "new": WEBB, "more": TWO}, (("lab", ("all",)),), 4)
        self.broken(0, kept(TWO), self.in_a_trial, desk)
        self.tells(desk, {"lab": PAIR, "new": WEBB, "more": TWO}, (("lab", ("all",)),), 4)

    def in_a_trial(self, desk):
        with desk.trial():
            desk.drop("new")
            desk.put("lab", TWO)

    def test_leaving_the_rows_by_return_and_break(self):
        desk = Desk()
        for name in ("a", "b"):
            with desk.trial():
                desk.put(name, PAIR)
                if name == "a":
                    continue
                break
        self.tells(desk, {"a": PAIR, "b": PAIR}, (), 2)

    def test_trials_of_two_desks(self):
        one, other = desk_of({"a": PAIR}), desk_of({"a": TWO})
        with self.assertRaises(KeyError):
            with one.trial(), other.trial():
                one.put("b", PAIR)
                other.put("b", TWO)
                raise KeyError
        self.tells(one, {"a": PAIR}, (), 1)
        self.tells(other, {"a": TWO}, (), 1)
        with self.assertRaises(KeyError):
            with one.trial():
                other.put("c", TWO)
                raise KeyError
        self.tells(other, {"a": TWO, "c": TWO}, (), 2)

    def test_tried(self):
        desk = desk_of({"lab": PAIR})
        self.assertEqual(desk.tried(len), 1)
        self.assertIs(desk.tried(lambda held: held), desk)
        self.assertIsNone(desk.tried(lambda held: held.put("b", TWO)))
        self.tells(desk, {"lab": PAIR, "b": TWO}, (), 2)
        answer = object()
        self.assertIs(desk.tried(lambda held: answer), answer)

    def test_tried_with_an_exception(self):
        desk = desk_of({"lab": PAIR})
        error = KeyError("lost")

        def action(held):
            held.put("b", TWO)
            held.put("lab", WEBB)
            raise error

        with self.assertRaises(KeyError) as caught:
            desk.tried(action)
        self.assertIs(caught.exception, error)
        self.tells(desk, {"lab": PAIR}, (), 1)

    def test_tried_within_tried(self):
        desk = desk_of({"lab": PAIR})

        def inner(held):
            held.put("c", WEBB)
            held.drop("none")

        def outer(held):
            held.put("b", TWO)
            with self.assertRaises(LookupError):
                held.tried(inner)
            return held.names

        self.assertEqual(desk.tried(outer), ("b", "lab"))
        self.tells(desk, {"lab": PAIR, "b": TWO}, (), 2)


if __name__ == "__main__":
    unittest.main()
