"""Points 120 to 122: plays of hands and houses, some of which lie; with points 50 to 53 and 60 to 64."""

import random
import unittest
from itertools import combinations

from seenatonce.crowds import Liar, Picks
from seenatonce.errors import (BadDeed, BadFuse, BadHand, BadHouse, BadLiars, BadNumber, BadPicks, BadState, BadStore, BadTable, BadWho, Busy, Gone, Lied,
                               NotGone, SeenError)
from seenatonce.hands import Hand
from seenatonce.histories import is_history
from seenatonce.orders import is_order, order_of
from seenatonce.roads import Road
from seenatonce.runs import Play
from seenatonce.sayings import convicted, is_paper, paper_of
from seenatonce.tables import counting_table
from seenatonce.trust import Trust
from tests.hands_helpers import numbers_sealed, sealed_sheets
from tests.helpers import any_parted, check_refused, check_sequence, odd_values
from tests.plays_helpers import Events, PlainPlay, TABLES, all_of, do, shown
from tests.test_lots import NO_TABLE
from tests.test_sayings import NO_STORE

TABLE = counting_table(3)
STORES = [(1, 1, 0), (2, 1, 0), (2, 2, 0), (2, 4, 1), (2, 4, 1), (3, 3, 0), (3, 4, 1), (3, 5, 1), (4, 4, 1), (2, 7, 2), (6, 1, 0)]


def brought(play, first=0):
    """All letters from the first one on are brought, one behind another, until none is left."""
    while first < play.road.count():
        play.bring(first)
        first += 1
    return first


def new_play(liars=(), picks=(), store=(2, 4, 1), begin=0):
    return Play(TABLE, begin, store, liars, picks)


class Plays(unittest.TestCase):
    def test_a_call(self):
        play = new_play()
        self.assertEqual((play.moment(), play.history(), play.answer(0)), (0, [], None))
        self.assertIsNone(play.call(0, 0))
        self.assertEqual((play.moment(), play.road.count(), play.history()), (1, 4, [(0, 1, None, 0, None)]))
        self.assertIsNone(play.answer(0))
        brought(play)
        self.assertEqual(play.answer(0), ("done", 0))
        ((hand, begin, end, deed, answer),) = play.history()
        self.assertEqual((hand, begin, deed, answer), (0, 1, 0, 0))
        self.assertTrue(begin < end <= play.moment())
        # The last answers came behind the end.
        self.assertEqual(play.moment(), 1 + play.road.count())
        play.call(1, 2)
        brought(play, play.road.count() - 4)
        self.assertEqual(play.answer(1), ("done", 1))
        self.assertEqual(play.row_of_house(3), (1, 1))

    def test_by_names(self):
        play = Play(table=TABLE, begin=2, store=(2, 4, 1), liars=[3], picks=[3])
        self.assertEqual((play.table, play.begin, play.store, play.liars), (TABLE, 2, (2, 4, 1), (3,)))
        self.assertTrue(play.trust.__class__ is Trust and play.road.__class__ is Road)
        play.call(hand=0, deed=2)
        play.bring(number=0)
        play.again(hand=0)
        play.fall(who=("hand", 0), writes=None)
        self.assertIs(play.is_gone(who=("hand", 0)), True)
        play.back(who=("hand", 0))
        self.assertIs(play.is_gone(who=("hand", 0)), False)
        self.assertEqual(play.cells_of(who=("hand", 0)), {"life": 2})
        self.assertEqual(play.row_of_house(house=0), (0, 0))
        self.assertIs(play.hand_at(hand=0).__class__, Hand)
        self.assertIsNone(play.answer(hand=0))
        self.assertEqual(play.moment(), 5)

    def test_new_disks_without_a_fuse(self):
        play = new_play(liars=(1,))
        self.assertEqual([play.cells_of(("hand", h)) for h in range(2)], [{"life": 1}] * 2)
        self.assertEqual([play.cells_of(("house", s)) for s in (0, 2, 3)], [{}] * 3)
        self.assertEqual([play.hand_at(h).disk.fuse for h in range(2)], [None] * 2)
        self.assertEqual(len({id(play.hand_at(h).disk) for h in range(2)}), 2)
        self.assertTrue(all(play.hand_at(h).trust is play.trust and play.hand_at(h).number == h for h in range(2)))

    def test_lists_that_are_passed_are_copied(self):
        liars, picks = [3], [0, 1]
        play = Play(TABLE, 0, (2, 4, 1), liars, picks)
        other = Play(TABLE, 0, (2, 4, 1), (3,), (0, 1))
        liars.append(2)
        picks.clear()
        picks.append(3)
        for one in (play, other):
            one.call(0, 0)
            brought(one)
        self.assertEqual(shown(play), shown(other))
        self.assertEqual(play.liars, (3,))

    def test_lists_and_dicts_that_are_returned_are_new(self):
        play = new_play()
        play.call(0, 0)
        brought(play)
        before = shown(play)
        play.history().clear()
        play.cells_of(("hand", 0)).clear()
        play.cells_of(("house", 1))["stock"] = ()
        self.assertEqual(shown(play), before)

    def test_again(self):
        play = new_play()
        play.call(0, 0)
        play.bring(1)
        play.bring(4)
        play.again(0)
        self.assertEqual([play.road.letter(number)[1][1] for number in range(5, 8)], [0, 2, 3])
        self.assertEqual(play.road.letter(5), play.road.letter(0))
        play.again(1)
        self.assertEqual((play.road.count(), play.moment()), (8, 5))

    def test_letters_that_are_brought_several_times(self):
        play = new_play(store=(1, 1, 0))
        play.call(0, 0)
        for _ in range(3):
            play.bring(0)
        self.assertEqual(play.road.count(), 4)
        for number in (1, 1, 3, 2):
            play.bring(number)
        self.assertEqual(play.road.count(), 5)
        brought(play, 4)
        self.assertEqual(play.answer(0), ("done", 0))
        self.assertEqual(play.moment(), 1 + 3 + 4 + play.road.count() - 4)


class Falls(unittest.TestCase):
    def test_now(self):
        play = new_play()
        play.call(0, 0)
        play.fall(("hand", 0), None)
        self.assertEqual((play.is_gone(("hand", 0)), play.hand_at(0), play.moment()), (True, None, 2))
        self.assertEqual(play.cells_of(("hand", 0)), {"life": 1})
        # A letter to one that is gone is lost, this time.
        play.bring(0)
        play.bring(4)
        self.assertEqual((play.road.count(), play.moment()), (5, 4))
        self.assertEqual(play.history(), [(0, 1, None, 0, None)])
        play.back(("hand", 0))
        self.assertEqual((play.history(), play.answer(0), play.hand_at(0).life), ([], None, 2))
        self.assertEqual((play.road.count(), play.moment()), (5, 5))
        play.call(0, 0)
        self.assertEqual(play.history(), [(0, 6, None, 0, None)])

    def test_a_house(self):
        play = new_play(store=(1, 1, 0))
        play.call(0, 0)
        play.fall(("house", 0), None)
        self.assertEqual((play.is_gone(("house", 0)), play.row_of_house(0)), (True, None))
        play.bring(0)
        self.assertEqual(play.road.count(), 1)
        play.back(("house", 0))
        self.assertEqual(play.row_of_house(0), (0,))
        brought(play)
        self.assertEqual(play.row_of_house(0), (1,))
        play.fall(("house", 0), 0)
        self.assertIs(play.is_gone(("house", 0)), False)
        play.bring(0)
        self.assertIs(play.is_gone(("house", 0)), True)
        play.back(("house", 0))
        self.assertEqual(play.row_of_house(0), (1,))

    def test_each_number_of_writes_of_a_hand(self):
        ends = set()
        for writes in range(16):
            play = new_play(store=(2, 4, 1))
            play.call(1, 0)
            first = brought(play)
            play.call(0, 0)
            play.fall(("hand", 0), writes)
            brought(play, first)
            if not play.is_gone(("hand", 0)):
                self.assertEqual(play.answer(0), ("done", 0))
                ends.add("done")
                continue
            self.assertEqual(play.history()[1][2:], (None, 0, None))
            sheet = play.cells_of(("hand", 0)).get("sheet")
            first = play.road.count()
            play.back(("hand", 0))
            self.assertIsNone(play.hand_at(0).disk.fuse)
            if sheet is None:
                self.assertEqual((len(play.history()), play.answer(0), play.road.count()), (1, None, first))
                ends.add("left out")
            elif play.road.count() == first:
                # The sheet had been told: the answer stands behind the comeback.
                self.assertEqual((play.answer(0), play.history()[1][2]), (("done", 0), play.moment()))
                ends.add("told")
            else:
                self.assertEqual(len(play.history()), 2)
                brought(play, first)
                self.assertEqual(play.answer(0), ("done", 0))
                self.assertEqual(play.history()[1][3:], (0, 0))
                ends.add("told on")
            play.call(1, 2)
            brought(play, first)
            self.assertEqual(play.answer(1), ("done", 1 if sheet is None else 2))
            self.assertEqual(sorted(numbers_sealed(play.trust)), sorted(set(numbers_sealed(play.trust))))
        self.assertEqual(ends, {"done", "left out", "told", "told on"})

    def test_each_number_of_writes_of_a_house(self):
        for writes in range(8):
            play = new_play(store=(2, 1, 0))
            play.fall(("house", 0), writes)
            play.call(0, 0)
            number = falls = 0
            while number < play.road.count():
                play.bring(number)
                number += 1
                if play.is_gone(("house", 0)):
                    falls += 1
                    self.assertIsNone(play.row_of_house(0))
                    cells = play.cells_of(("house", 0))
                    self.assertEqual(len(cells.get("past", ())), min(writes, 3))
                    self.assertEqual("stock" in cells, writes == 4)
                    play.back(("house", 0))
                    self.assertEqual(play.cells_of(("house", 0)), cells)
                    play.again(0)
            # Three sayings, then the sheet and the saying behind it.
            self.assertEqual(falls, int(writes < 5))
            self.assertEqual((play.answer(0), play.row_of_house(0)), (("done", 0), (1, 0)))
            # What it says goes on from there.
            play.fall(("house", 0), 100)
            play.call(1, 2)
            brought(play, number)
            self.assertEqual(play.answer(1), ("done", 1))

    def test_an_event_amid_which_one_falls_ends_there(self):
        play = new_play(store=(1, 1, 0))
        play.call(0, 0)
        play.fall(("house", 0), 0)
        play.bring(0)
        self.assertEqual((play.road.count(), play.is_gone(("house", 0))), (1, True))
        play.back(("house", 0))
        for number in range(3):
            play.bring(number)
        # The hand falls at the write that the answer brings.
        play.fall(("hand", 0), 0)
        before = play.road.count()
        play.bring(3)
        self.assertEqual((play.road.count(), play.is_gone(("hand", 0))), (before, True))

    def test_a_fuse_that_is_set_again(self):
        play = new_play(store=(1, 1, 0))
        play.fall(("hand", 0), 0)
        play.fall(("hand", 0), 100)
        play.call(0, 0)
        brought(play)
        self.assertEqual(play.answer(0), ("done", 0))
        play.fall(("hand", 0), None)
        self.assertIs(play.is_gone(("hand", 0)), True)
        # What was answered stays known, also while the hand is gone and in its next life.
        self.assertEqual(play.answer(0), ("done", 0))
        play.back(("hand", 0))
        self.assertEqual((play.answer(0), len(play.history())), (("done", 0), 1))
        play.call(0, 2)
        self.assertEqual(play.answer(0), ("done", 0))


class Refused(unittest.TestCase):
    """Events that are refused take no moment and change nothing."""

    def refused(self, play, error, event):
        before, sizes = shown(play), (play.trust.size(), play.moment())
        with self.assertRaises(error) as caught:
            do(play, event)
        self.assertIs(caught.exception.__class__, error, event)
        self.assertEqual((shown(play), (play.trust.size(), play.moment())), (before, sizes), event)

    def test_each_error_of_each_method(self):
        play = new_play(liars=(3,))
        play.call(0, 0)
        hands = [*odd_values(), 2, -1, (), "0", ("hand", 0), (0,)]
        for hand in hands:
            for event in (("call", hand, 0), ("again", hand), ("hand_at", hand), ("answer", hand)):
                self.refused(play, BadHand, event)
        for deed in (*odd_values(), 3, -1, (), "0", (0,)):
            self.refused(play, BadDeed, ("call", 1, deed))
            self.refused(play, BadDeed, ("call", 0, deed))
        for number in (*odd_values(), 4, -1, (), "0", (0,)):
            self.refused(play, BadNumber, ("bring", number))
        for who in (*odd_values(), (), 0, ("hand", 2), ("house", 4), ("house", 3), ("hand", -1), ("hand", True), ["hand", 0], ("hand",), ("hand", 0, 0), ("hands", 0), "hand"):
            for event in (("fall", who, None), ("back", who), ("is_gone", who), ("cells_of", who)):
                self.refused(play, BadWho, event)
        for writes in (*[value for value in odd_values() if value is not None], (), "1", (0,)):
            self.refused(play, BadFuse, ("fall", ("hand", 0), writes))
        for house in (*odd_values(), 4, 3, -1, (), "0", ("house", 0)):
            self.refused(play, BadHouse, ("row_of_house", house))
        self.refused(play, Busy, ("call", 0, 1))
        self.refused(play, NotGone, ("back", ("hand", 0)))
        self.refused(play, NotGone, ("back", ("house", 0)))

    def test_one_that_is_gone(self):
        play = new_play()
        play.call(0, 0)
        play.fall(("hand", 0), None)
        play.fall(("house", 1), None)
        for event in (("call", 0, 0), ("again", 0), ("fall", ("hand", 0), None), ("fall", ("hand", 0), 3), ("fall", ("house", 1), 0)):
            self.refused(play, Gone, event)
        self.refused(play, BadDeed, ("call", 0, 3))
        self.refused(play, BadFuse, ("fall", ("hand", 0), -1))
        self.refused(play, BadFuse, ("fall", ("house", 1), True))

    def test_one_that_is_telling_on_is_busy(self):
        play = new_play(store=(1, 1, 0))
        play.call(0, 0)
        while play.cells_of(("hand", 0)).get("sheet") is None:
            play.bring(play.road.count() - 1)
        play.fall(("hand", 0), None)
        play.back(("hand", 0))
        self.refused(play, Busy, ("call", 0, 0))
        brought(play)
        self.assertEqual(play.answer(0), ("done", 0))

    def test_one_that_was_lied_to(self):
        play, hand = lied_play()
        self.assertEqual(play.answer(hand)[0], "lied")
        self.refused(play, Lied, ("call", hand, 0))
        self.refused(play, BadDeed, ("call", hand, 9))
        begun = [call for call in play.history() if call[0] == hand][-1]
        self.assertEqual((begun[2], begun[4]), (None, None))
        # It falls and comes back: its call is left out, and it may call again.
        play.fall(("hand", hand), None)
        self.assertIn(begun, play.history())
        play.back(("hand", hand))
        self.assertNotIn(begun, play.history())
        self.assertEqual(play.answer(hand)[0], "lied")
        play.call(hand, 0)

    def test_errors_of_a_new_play(self):
        args = [TABLE, 0, (2, 4, 1), [1, 3], [0, 7]]
        check_refused(self, BadTable, Play, args, 0, NO_TABLE)
        check_refused(self, BadState, Play, args, 1, [*odd_values(), 3, -1, (), "0", (0,)])
        check_refused(self, BadStore, Play, args, 2, NO_STORE)
        check_refused(self, BadLiars, Play, args, 3, [*[value for value in odd_values() if value not in ([], [0])], [3, 1], [1, 1], [4], [-1], [True], [None], 1, "1", {1: 1}, {1}, [[1]]])
        check_refused(self, BadPicks, Play, args, 4, [*[value for value in odd_values() if value not in ([], [0])], [-1], [True], [None], [10 ** 18], 1, "1", {1: 1}, [[1]]])
        check_sequence(self, Play, args, [(0, None, BadTable), (1, None, BadState), (2, None, BadStore), (3, None, BadLiars), (4, None, BadPicks)])
        for liars in ([], (), [0], (0, 1, 2, 3), [1, 2]):
            self.assertEqual(Play(TABLE, 0, (2, 4, 1), liars, []).liars, tuple(liars))
        Play(TABLE, 0, (2, 4, 1), [], (0, 10 ** 18 - 1))


def lied_play():
    """A play in which a hand was lied to, found among drawn ones."""
    for seed in range(200):
        draw = random.Random(1200 + seed)
        play = Play(TABLE, 0, (2, 1, 0), (0,), tuple(draw.randrange(20) for _ in range(40)))
        events = Events(draw, play, 14, 0)
        for _ in range(150):
            do(play, events.next())
            for hand in range(2):
                if play.answer(hand) is not None and play.answer(hand)[0] == "lied":
                    return play, hand
    raise AssertionError("no such play")


class Liars(unittest.TestCase):
    def test_picks(self):
        self.assertEqual([Picks(()).pick(many) for many in (1, 4, 8)], [0, 0, 0])
        picks = Picks([5, 2, 7])
        self.assertEqual([picks.pick(many) for many in (4, 4, 4, 4, 1, 8, 3)], [1, 2, 3, 1, 0, 7, 2])

    def test_no_picks(self):
        # One version hears all: the house is as one that keeps to its rules.
        plays = new_play(liars=(0, 1, 2, 3)), new_play()
        for play in plays:
            play.call(0, 0)
            brought(play)
            play.call(1, 2)
            brought(play)
        self.assertEqual([play.history() for play in plays][0], plays[1].history())
        self.assertEqual(plays[0].answer(1), ("done", 1))

    def answers(self, picks, letters):
        trust = Trust()
        liar, chosen = Liar(trust, (1, 1, 0), 0), Picks(picks)
        told = []
        for letter in letters:
            for _, _, body in liar.hear(letter, chosen):
                told.append(trust.content(body[-1])[2:4])
        return told

    def test_the_four_ways(self):
        ask = (("hand", 0), ("house", 0), ("ask", 1, 1, (0,), ()))
        self.assertEqual(self.answers([0], [ask] * 3), [(1, (0,)), (2, (0,)), (3, (0,))])
        self.assertEqual(self.answers([3], [ask] * 3), [])
        self.assertEqual(self.answers([3, 0, 0], [ask] * 4), [(1, (0,)), (2, (0,))])
        # A copy of the first version each time: the first one itself hears nothing.
        self.assertEqual(self.answers([1, 0], [ask] * 3), [(1, (0,))] * 3)
        # Version 0 hears twice; its copy goes on from there; the first one takes the copy's past; then tells on.
        self.assertEqual(self.answers([0, 0, 0, 0, 1, 0, 2, 0, 1, 2, 1, 0], [ask] * 5), [(1, (0,)), (2, (0,)), (3, (0,)), (4, (0,)), (5, (0,))])
        self.assertEqual(self.answers([1, 0, 0, 0, 0, 1, 2, 0, 1, 0, 1], [ask] * 5), [(1, (0,)), (1, (0,)), (2, (0,)), (3, (0,)), (3, (0,))])

    def test_eight_versions(self):
        ask = (("hand", 0), ("house", 0), ("ask", 1, 1, (0,), ()))
        # Seven copies of the first version, then the way is as way 0: the first version hears, again and again.
        self.assertEqual(self.answers([1, 0], [ask] * 9), [(1, (0,))] * 8 + [(2, (0,))])
        self.assertEqual(self.answers([1, 8], [ask] * 10), self.answers_by_words([1, 8], [ask] * 10))
        self.assertEqual(self.answers([1, 7], [ask] * 12), self.answers_by_words([1, 7], [ask] * 12))

    def answers_by_words(self, picks, letters):
        play = PlainPlay(TABLE, 0, (1, 1, 0), (0,), picks)
        return [play.trust.content(body[-1])[2:4] for letter in letters for _, _, body in play.lie(play.versions[0], letter)]

    def test_drawn_picks(self):
        draw = random.Random(1210)
        ask = (("hand", 0), ("house", 0), ("ask", 1, 1, (0,), ()))
        for _ in range(60):
            picks = [draw.randrange(12) for _ in range(draw.randint(0, 30))]
            self.assertEqual(self.answers(picks, [ask] * 40), self.answers_by_words(picks, [ask] * 40))


class Drawn(unittest.TestCase):
    def test_by_the_words(self):
        """A play beside one of plain words, letter by letter; and another one led by the same events tells the same."""
        kinds = {}
        for seed in range(40):
            draw = random.Random(1220 + seed)
            store, table = draw.choice(STORES[:7]), draw.choice(TABLES)
            liars = tuple(sorted(draw.sample(range(store[1]), draw.randint(0, store[1]))))
            args = (table, draw.randrange(len(table[0])), store, liars, tuple(draw.randrange(30) for _ in range(draw.randint(0, 25))))
            play, plain, twin = Play(*args), PlainPlay(*args), Play(*args)
            events = Events(draw, play, 14, 0.15)
            for k in range(250):
                event = events.next()
                do(play, event)
                do(twin, event)
                plain.do(event)
                kinds[event[0]] = kinds.get(event[0], 0) + 1
                if k % 25 == 0 or event[0] in ("back", "call"):
                    self.assertEqual(shown(play), plain.shows())
            self.assertEqual(shown(play), plain.shows())
            self.assertEqual(shown(play), shown(twin))
            self.assertIs(is_history(table, play.history()), True)
        self.assertGreater(min(kinds.values()), 200)

    def drawn_play(self, seed, liars_of, steps=1000):
        draw = random.Random(seed)
        store, table = draw.choice(STORES), draw.choice(TABLES)
        liars = tuple(sorted(draw.sample(range(store[1]), liars_of(draw, store))))
        play = Play(table, draw.randrange(len(table[0])), store, liars, [draw.randrange(1000) for _ in range(97)])
        events = Events(draw, play)
        lied = {}
        for _ in range(steps):
            if play.road.count() > 2500:
                break
            do(play, events.next())
            self.look_at_answers(play, lied)
        return play, lied

    def look_at_answers(self, play, lied):
        """A hand that was lied to names enough houses, all of them liars, each with a paper that convicts it."""
        for hand in range(play.store[0]):
            told = play.answer(hand)
            if told is not None and told[0] == "lied" and lied.get(hand) != told:
                lied[hand] = told
                self.assertGreaterEqual(len(told[1]), play.store[1] - 2 * play.store[2])
                self.assertEqual([house for house, _ in told[1]], sorted({house for house, _ in told[1]}))
                for house, paper in told[1]:
                    self.assertIn(house, play.liars)
                    self.assertIs(is_paper(play.trust, play.store, paper), True)
                    self.assertEqual(convicted(play.trust, play.store, paper), house)

    def check_houses_and_sheets(self, play):
        """No house that keeps to its rules is convicted, and no hand seals two sheets with one number."""
        numbers = numbers_sealed(play.trust)
        self.assertEqual(len(numbers), len(set(numbers)))
        for kind, house in all_of(play):
            if kind == "house":
                names = [("name", k) for k in range(play.trust.size()) if play.trust.sealed((kind, house), ("name", k))]
                for one, other in combinations(names[-14:], 2):
                    self.assertIsNone(paper_of(play.trust, play.store, one, other))

    def check_lines(self, play, lied):
        """What a hand that was not lied to has seen of looks lies on one line."""
        for hand in range(play.store[0]):
            if hand not in lied:
                cells = play.cells_of(("hand", hand))
                names = [name for sheets in cells.get("stock", ()) for name in sheets]
                rows = {look[0] for name in names for look in play.trust.content(name)[5]} | {look[0] for look in cells.get("looks", ())}
                self.assertFalse(any_parted(rows))

    def check_stocks(self, play):
        """Point 43: all stocks have the same sheets of a hand, one more of them than the other; what is told of is older."""
        stocks = [play.cells_of(who).get("stock", ((),) * play.store[0]) for who in all_of(play)]
        for hand in range(play.store[0]):
            longest = max((stock[hand] for stock in stocks), key=len)
            self.assertTrue(all(longest[:len(stock[hand])] == stock[hand] for stock in stocks))
        for name in sealed_sheets(play.trust):
            inner = [told for look in play.trust.content(name)[5] for told in look[1] + look[2]]
            self.assertTrue(all(told < name for told in inner))

    def finish(self, play):
        """All come back; each hand's letters are brought to need houses that answer: each call ends, in few rounds."""
        for who in all_of(play):
            if play.is_gone(who):
                play.back(who)
            play.fall(who, 10 ** 6)
        need = play.store[1] - play.store[2]
        houses = [number for kind, number in all_of(play) if kind == "house"][-need:]
        for hand in range(play.store[0]):
            self.bring_round_by_round(play, hand, houses)

    def bring_round_by_round(self, play, hand, houses):
        for _ in range(2 * (play.store[0] + 1)):
            if not play.hand_at(hand).again():
                return
            first = play.road.count()
            play.again(hand)
            for number in range(first, play.road.count()):
                if play.road.letter(number)[1][1] in houses:
                    before = play.road.count()
                    play.bring(number)
                    for answer in range(before, play.road.count()):
                        play.bring(answer)
        self.assertEqual(play.hand_at(hand).again(), [])

    def test_with_at_most_lies_liars(self):
        ended = orders = 0
        for seed in range(45):
            play, lied = self.drawn_play(3000 + seed, lambda draw, store: draw.randint(0, store[2]))
            self.finish(play)
            self.assertEqual(lied, {})
            self.check_houses_and_sheets(play)
            self.check_stocks(play)
            self.check_lines(play, lied)
            history = play.history()
            self.assertIs(is_history(play.table, history), True)
            order = order_of(play.table, play.begin, history)
            self.assertIs(is_order(play.table, play.begin, history, order), True)
            orders += len(order) > 5
            ended += sum(call[2] is not None for call in history)
            self.assertTrue(all(call[2] is not None for call in history))
            self.assertEqual(len(history), len(sealed_sheets(play.trust)))
            # Calls go on where these ended.
            play.call(0, 0)
            self.finish(play)
            self.assertIsNotNone(play.history()[-1][2])
        self.assertGreater(ended, 180)
        self.assertGreater(orders, 10)

    def test_with_more_liars(self):
        lies = 0
        for seed in range(60):
            play, lied = self.drawn_play(4000 + seed, lambda draw, store: draw.randint(store[2] + 1, store[1]), 500)
            self.check_houses_and_sheets(play)
            self.check_stocks(play)
            self.check_lines(play, lied)
            lies += len(lied)
        self.assertGreater(lies, 15)

    def test_nobody_waits(self):
        # All other hands have left amid their calls, and so many houses are gone.
        for store in ((3, 1, 0), (3, 4, 1), (2, 7, 2), (6, 4, 1)):
            for seed in range(4):
                draw = random.Random(seed)
                play = Play(TABLE, 0, store, (), ())
                for hand in range(1, store[0]):
                    play.call(hand, 0)
                for _ in range(40 * seed):
                    play.bring(draw.randrange(play.road.count()))
                for hand in range(1, store[0]):
                    play.fall(("hand", hand), None)
                for house in range(store[2]):
                    play.fall(("house", house), None)
                if not play.hand_at(0).again():
                    play.call(0, 2)
                self.bring_round_by_round(play, 0, range(store[2], store[1]))
                self.assertEqual(play.answer(0)[0], "done")

    def test_refusals_amid_a_drawn_play(self):
        draw = random.Random(1230)
        play = Play(TABLE, 0, (2, 4, 1), (3,), (0, 1, 5))
        events = Events(draw, play, 14, 0.2)
        refused = 0
        for _ in range(300):
            do(play, events.next())
            hand, who = draw.randrange(2), draw.choice(all_of(play))
            event = draw.choice((("call", hand, 0), ("again", hand), ("fall", who, None), ("back", who), ("bring", play.road.count())))
            gone = play.is_gone(("hand", hand)) if event[0] in ("call", "again") else play.is_gone(who)
            if event[0] == "bring" or gone == (event[0] != "back") or event[0] == "call" and play.hand_at(hand).again():
                before = shown(play)
                with self.assertRaises(SeenError):
                    do(play, event)
                self.assertEqual(shown(play), before)
                refused += 1
        self.assertGreater(refused, 50)


if __name__ == "__main__":
    unittest.main()
