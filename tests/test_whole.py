"""Point 4, the whole promise, over rooms of copies that edit, hear one another late and twice, and drop."""

import itertools
import random
import unittest

from heardalike.copies import Copy
from heardalike.heard import Heard
from heardalike.keepers import Keeper
from heardalike.orders import order, parting
from heardalike.places import lies, skipped
from heardalike.shows import shown
from heardalike.stamps import ROOT
from heardalike.standing import standing
from heardalike.undoing import counting
from tests.model import Model
from tests.pairs import Calls, outcome
from tests.sets import drawn, orders
from tests.values import strict

NAMES = ["ann", "bob", "cy"]


def played(seed, many=40):
    """All deeds of a room of copies that hear some of one another's."""
    calls = Calls(seed)
    copies = [Copy(name, among=NAMES) for name in NAMES]
    made = {}
    while len(made) < many:
        one, other = calls.any_of(*copies), calls.any_of(*copies)
        word, places, names = calls.call(one, [deed[0] for deed in one.stands()])
        outcome(getattr(one, word), *places, **names)
        if calls.lot.random() < 0.4:
            other.hear_all(one.news(other.counts()))
        made.update({deed[0]: deed for deed in one.deeds()})
    return [made[stamp] for stamp in sorted(made)]


class Heardalike(unittest.TestCase):
    def test_in_whatever_order_late_or_twice_the_same_is_shown(self):
        for seed in range(12):
            deeds = played(seed)
            value = strict(shown(deeds))
            for handed in orders(deeds, 3):
                for one in (Copy("ann", among=NAMES), Keeper("ann", among=NAMES), Heard()):
                    for at, deed in enumerate(handed):
                        one.hear(deed)
                        one.hear(handed[at // 2])
                    self.assertEqual(one.deeds(), deeds)
                    self.assertEqual([deed[0] for deed in one.stands()], [deed[0] for deed in deeds])
                    if not isinstance(one, Heard):
                        self.assertEqual(strict(one.shown()), value)
                self.assertEqual(strict(shown(handed)), value)

    def test_what_stands_does_so_whatever_else_is_heard(self):
        for seed in range(12):
            one, ahead = Heard(), set()
            for deed in drawn(seed):
                one.hear(deed)
                now = {deed[0] for deed in one.stands()}
                self.assertLessEqual(ahead, now)
                ahead = now

    def test_no_thing_ever_lies_in_itself(self):
        for deeds in [*[played(seed) for seed in range(8)], *[drawn(seed) for seed in range(30)]]:
            for size in range(0, len(deeds) + 1, 5):
                lying = lies(deeds[:size])
                for thing in lying:
                    chain, at = [thing], lying[thing]
                    while at is not None and at[0] != ROOT:
                        self.assertNotIn(at[0], chain)
                        chain.append(at[0])
                        at = lying.get(at[0])
                for stamp, way in skipped(deeds[:size]):
                    move = next(deed[2] for deed in deeds if deed[0] == stamp)
                    self.assertEqual((way[0][0], way[-1]), (move[2], (move[1], None)))

    def test_what_is_ahead_stays_ahead(self):
        for seed in range(15):
            deeds = drawn(seed)
            last = {thing: order(deeds, thing) for thing in Model(deeds).rows_of_positions()}
            for size in range(0, len(deeds), 4):
                part = standing(deeds[:size])
                for thing in Model(part).rows_of_positions():
                    told = order(part, thing)
                    self.assertEqual(told, [position for position in last[thing] if position in told])
                    for one, other in itertools.combinations(told[:5], 2):
                        self.assertEqual(parting(part, thing, one, other), parting(deeds, thing, one, other))

    def test_what_was_typed_in_a_row_stays_a_row(self):
        lot = random.Random(4)
        for _ in range(12):
            copies = [Copy(name, among=NAMES) for name in NAMES]
            copies[0].put([], ("text",), place="t")
            for one in copies[1:]:
                one.hear_all(copies[0].news({}))
            rows = []
            for number in range(12):
                one, other = lot.choice(copies), lot.choice(copies)
                text = one.at(["t"])
                rows.append([deed[0] for deed in one.write(["t"], str(number % 10) * lot.randrange(1, 5), place=lot.randrange(len(text) + 1))])
                if text and lot.random() < 0.3:
                    one.erase(["t"], place=lot.randrange(len(text)))
                if lot.random() < 0.3:
                    other.hear_all(one.news(other.counts()))
            for one, other in list(itertools.permutations(copies, 2)) * 2:
                other.hear_all(one.news(other.counts()))
            self.rows_held(copies[0].deeds(), rows)
            self.assertEqual(len({one.at(["t"]) for one in copies}), 1)

    def rows_held(self, deeds, rows):
        """Between the first one of a row and its last stands what is put behind one of it, and nothing else."""
        model = Model(deeds)
        told = order(deeds, (1, "ann"))
        for row in rows:
            places = [told.index(position) for position in row]
            self.assertEqual(places, sorted(places))
            for position in told[places[0]:places[-1]]:
                if position not in row:
                    self.assertTrue(set(model.upway(position)) & set(row[:-1]))

    def test_an_undo_undoes_just_its_deed(self):
        for seed in range(10):
            deeds = played(seed, 30)
            last = deeds[-1][0][0]
            for deed in deeds[::3]:
                if deed[2][0] == "seen":
                    continue
                undo = ((last + 1, "zoe"), 0, ("undo", deed[0]))
                again = ((last + 2, "zoe"), last + 1, ("undo", undo[0]))
                counted = set(counting(deeds + [undo])) - {undo[0]}
                self.assertNotIn(deed[0], counted)
                if deed[2][0] != "undo":
                    self.assertEqual(counted, set(counting(deeds)) - {deed[0]})
                self.assertEqual(strict(shown([*deeds, undo, again])), strict(shown(deeds)))

    def test_told_of_the_set_and_of_nothing_else(self):
        for seed in range(6):
            deeds = played(seed, 30)
            one, other = Copy("ann", among=NAMES), Copy("bob", among=list(reversed(NAMES)))
            one.hear_all(deeds)
            for deed in reversed(deeds):
                other.hear(deed)
            self.assertEqual(strict(one.shown()), strict(other.shown()))
            self.assertEqual((one.stands(), one.waits(), one.counts(), one.news({})), (other.stands(), other.waits(), other.counts(), other.news({})))


if __name__ == "__main__":
    unittest.main()
