"""Points 23 to 26: outs that wait, sound, are silenced, and are out of use."""

import random
import unittest

from samples import ODD_THINGS, nested
from sounding_model import Model
from warnloop.errors import HouseError, NoAddress, NoHand
from warnloop.sounding import Sounder

THIRTY = tuple((address, address % 21) for address in range(2, 92, 3))
STRANGERS = ODD_THINGS + [True, False, "5", (5,), [5], nested(12, 5), -5, 0, 100, 4, 6, 10 ** 5000, None]
OUTS = ((5, 0), (7, 1), (9, 3), (11, 20))


def states(sounder, outs=OUTS):
    return {address: sounder.state_of(address) for address, _ in outs}


def sounding_one(delay=0):
    """One out that is sounding and wanted, with a second one beside it that is not."""
    sounder = Sounder(((5, delay), (7, 0)))
    for _ in range(delay + 1):
        sounder.beat((5,))
    return sounder


class Beats(unittest.TestCase):
    def test_at_first(self):
        sounder = Sounder(OUTS)
        self.assertEqual(set(states(sounder).values()), {("still", 0)})
        self.assertEqual((sounder.sounded(), sounder.out_of_use()), ([], []))
        self.assertEqual((sounder.press(), sounder.silence(), sounder.reset()), ([], [], []))

    def test_no_outs(self):
        sounder = Sounder(())
        self.assertEqual([sounder.beat(()) for _ in range(3)], [[]] * 3)
        self.assertEqual((sounder.press(), sounder.silence(), sounder.reset()), ([], [], []))
        self.assertEqual((sounder.sounded(), sounder.out_of_use()), ([], []))
        self.assertRaises(NoAddress, sounder.state_of, 5)

    def test_delays(self):
        for delay in (0, 1, 2, 19, 20):
            sounder = Sounder(((5, delay),))
            told = []
            for beat in range(delay + 3):
                told.append(sounder.beat((5,)))
                left = delay - beat
                self.assertEqual(sounder.state_of(5), ("waiting", left) if left > 0 else ("sounding", 0))
                self.assertEqual(sounder.sounded(), [] if left > 0 else [5])
            self.assertEqual(told[0], [("waiting" if delay else "sounding", 5)])
            if delay:
                self.assertEqual(told[delay], [("sounding", 5)])
            self.assertEqual(sum(len(events) for events in told), 2 if delay else 1)

    def test_thirty(self):
        sounder = Sounder(THIRTY)
        addresses = tuple(address for address, _ in THIRTY)
        told = sounder.beat(addresses)
        self.assertEqual(told, [("waiting" if delay else "sounding", address) for address, delay in THIRTY])
        for beat in range(1, 22):
            self.assertEqual(sounder.beat(addresses),
                             [("sounding", address) for address, delay in THIRTY if delay == beat])
        self.assertEqual(sounder.sounded(), list(addresses))
        self.assertEqual(sounder.silence(), list(addresses))
        self.assertEqual(sounder.sounded(), [])

    def test_not_wanted_while_it_waits(self):
        sounder = Sounder(((9, 3),))
        sounder.beat((9,))
        sounder.beat((9,))
        self.assertEqual(sounder.state_of(9), ("waiting", 2))
        self.assertEqual(sounder.beat(()), [("still", 9)])
        self.assertEqual(sounder.state_of(9), ("still", 0))
        self.assertEqual(sounder.beat(()), [])
        self.assertEqual(sounder.beat((9,)), [("waiting", 9)])
        self.assertEqual(sounder.state_of(9), ("waiting", 3))

    def test_sounding_goes_on_when_it_is_not_wanted(self):
        sounder = sounding_one()
        self.assertEqual([sounder.beat(()) for _ in range(5)], [[]] * 5)
        self.assertEqual(sounder.state_of(5), ("sounding", 0))
        self.assertEqual(sounder.beat((5,)), [])

    def test_one_that_would_sound_at_this_beat_but_is_not_wanted(self):
        sounder = Sounder(((7, 1),))
        sounder.beat((7,))
        self.assertEqual(sounder.beat(()), [("still", 7)])

    def test_several_at_one_beat(self):
        sounder = Sounder(OUTS)
        self.assertEqual(sounder.beat((5, 7, 9, 11)),
                         [("sounding", 5), ("waiting", 7), ("waiting", 9), ("waiting", 11)])
        self.assertEqual(sounder.beat((5, 7, 11)), [("sounding", 7), ("still", 9)])
        self.assertEqual(sounder.beat((9,)), [("waiting", 9), ("still", 11)])
        self.assertEqual(states(sounder),
                         {5: ("sounding", 0), 7: ("sounding", 0), 9: ("waiting", 3), 11: ("still", 0)})
        self.assertEqual(sounder.sounded(), [5, 7])


class Silenced(unittest.TestCase):
    def test_silence(self):
        sounder = sounding_one()
        self.assertEqual(sounder.silence(), [5])
        self.assertEqual((sounder.state_of(5), sounder.sounded()), (("silenced", 0), []))
        self.assertEqual(sounder.silence(), [])

    def test_it_stays_while_nothing_is_new(self):
        sounder = sounding_one()
        sounder.silence()
        self.assertEqual([sounder.beat((5,)) for _ in range(4)], [[]] * 4)
        self.assertEqual([sounder.beat(()) for _ in range(4)], [[]] * 4)
        self.assertEqual(sounder.state_of(5), ("silenced", 0))

    def test_a_new_one_wakes_all(self):
        sounder = Sounder(((3, 0), (5, 0), (7, 4)))
        sounder.beat((3, 5))
        sounder.silence()
        self.assertEqual(sounder.beat((5, 7)), [("sounding", 3), ("sounding", 5), ("waiting", 7)])
        self.assertEqual(sounder.sounded(), [3, 5])

    def test_one_that_is_new_again_wakes(self):
        sounder = sounding_one()
        sounder.silence()
        sounder.beat(())
        self.assertEqual(sounder.beat((5,)), [("sounding", 5)])

    def test_a_new_one_that_sounds_already_wakes(self):
        sounder = Sounder(((3, 0), (5, 0)))
        sounder.beat((3, 5))
        sounder.beat((3,))
        sounder.silence()
        self.assertEqual(sounder.beat((3, 5)), [("sounding", 3), ("sounding", 5)])

    def test_waiting_ones_that_come_to_sound_wake_none(self):
        sounder = Sounder(((3, 0), (5, 2)))
        sounder.beat((3, 5))
        sounder.silence()
        self.assertEqual(sounder.beat((3, 5)), [])
        self.assertEqual(sounder.beat((3, 5)), [("sounding", 5)])
        self.assertEqual(sounder.state_of(3), ("silenced", 0))

    def test_only_sounding_ones_are_silenced(self):
        sounder = Sounder(OUTS)
        sounder.beat((5, 9))
        self.assertEqual(sounder.silence(), [5])
        self.assertEqual(states(sounder),
                         {5: ("silenced", 0), 7: ("still", 0), 9: ("waiting", 3), 11: ("still", 0)})

    def test_wanted_is_never_still(self):
        sounder = sounding_one()
        sounder.silence()
        sounder.reset()
        self.assertEqual(sounder.state_of(5), ("silenced", 0))


class Hands(unittest.TestCase):
    def test_press(self):
        sounder = Sounder(OUTS)
        sounder.beat((5, 7, 9, 11))
        self.assertEqual(sounder.press(), [7, 9, 11])
        self.assertEqual(states(sounder),
                         {5: ("sounding", 0), 7: ("waiting", 1), 9: ("waiting", 1), 11: ("waiting", 1)})
        self.assertEqual(sounder.press(), [7, 9, 11])
        self.assertEqual(sounder.beat((5, 7, 11)), [("sounding", 7), ("still", 9), ("sounding", 11)])
        self.assertEqual(sounder.press(), [])

    def test_lengthen(self):
        for delay in (1, 3, 20):
            sounder = Sounder(((5, delay),))
            sounder.beat((5,))
            self.assertEqual(sounder.lengthen(5), 2 * delay)
            self.assertEqual(sounder.state_of(5), ("waiting", 2 * delay))
            told = [sounder.beat((5,)) for _ in range(2 * delay)]
            self.assertEqual(told, [[]] * (2 * delay - 1) + [[("sounding", 5)]])

    def test_lengthen_later_and_behind_a_press(self):
        sounder = Sounder(((9, 3), (11, 3)))
        sounder.beat((9, 11))
        sounder.beat((9, 11))
        self.assertEqual(sounder.lengthen(9), 5)
        sounder.press()
        self.assertEqual(sounder.state_of(9), ("waiting", 1))
        self.assertEqual(sounder.lengthen(11), 4)

    def test_lengthen_once_since_it_began_to_wait(self):
        sounder = Sounder(((9, 3),))
        sounder.beat((9,))
        sounder.lengthen(9)
        for _ in range(3):
            self.assertRaises(NoHand, sounder.lengthen, 9)
            self.assertEqual(sounder.state_of(9)[0], "waiting")
            sounder.beat((9,))
        sounder.press()
        self.assertRaises(NoHand, sounder.lengthen, 9)
        sounder.beat(())
        self.assertRaises(NoHand, sounder.lengthen, 9)
        sounder.beat((9,))
        self.assertEqual(sounder.lengthen(9), 6)
        self.assertRaises(NoHand, sounder.lengthen, 9)

    def test_lengthen_again_behind_a_reset(self):
        sounder = Sounder(((9, 1),))
        sounder.beat((9,))
        sounder.lengthen(9)
        sounder.press()
        sounder.beat((9,))
        sounder.beat(())
        self.assertEqual(sounder.reset(), [9])
        sounder.beat((9,))
        self.assertEqual(sounder.lengthen(9), 2)

    def test_no_hand_of_one_that_does_not_wait(self):
        sounder = Sounder(((3, 2), (5, 0), (7, 0)))
        sounder.beat((5, 7))
        sounder.silence()
        sounder.beat((5,))
        for address, state in ((3, ("still", 0)), (5, ("silenced", 0))):
            with self.assertRaises(HouseError) as caught:
                sounder.lengthen(address)
            self.assertIs(caught.exception.__class__, NoHand)
            self.assertEqual(sounder.state_of(address), state)
        sounder.beat((5, 7))
        self.assertEqual(sounder.state_of(5), ("sounding", 0))
        self.assertRaises(NoHand, sounder.lengthen, 5)

    def test_reset(self):
        sounder = Sounder(((1, 0), (2, 0), (3, 0), (4, 5), (5, 0)))
        sounder.beat((1, 2))
        sounder.silence()
        sounder.beat((1, 2))
        self.assertEqual(sounder.reset(), [])
        sounder.beat((2,))
        self.assertEqual(sounder.reset(), [1])
        self.assertEqual([sounder.state_of(address)[0] for address in range(1, 6)],
                         ["still", "silenced", "still", "still", "still"])
        sounder.beat((2, 3, 4))
        self.assertEqual(sounder.sounded(), [2, 3])
        self.assertEqual(sounder.reset(), [])
        self.assertEqual(sounder.state_of(4), ("waiting", 5))
        sounder.beat((4,))
        self.assertEqual(sounder.reset(), [2, 3])
        self.assertEqual(sounder.state_of(4), ("waiting", 4))

    def test_reset_asks_for_the_last_beat_alone(self):
        sounder = sounding_one()
        self.assertEqual(sounder.reset(), [])
        sounder.beat(())
        self.assertEqual(sounder.reset(), [5])
        self.assertEqual(sounder.reset(), [])
        self.assertEqual(sounder.beat((5,)), [("sounding", 5)])

    def test_hands_do_not_make_new_ones(self):
        sounder = sounding_one()
        sounder.silence()
        sounder.press()
        sounder.reset()
        self.assertEqual(sounder.beat((5,)), [])


class OutOfUse(unittest.TestCase):
    def test_one_and_sixty_beats(self):
        for beats in (1, 2, 59, 60):
            sounder = Sounder(OUTS)
            self.assertIsNone(sounder.put_out(9, beats))
            for left in range(beats, 0, -1):
                self.assertEqual(sounder.out_of_use(), [(9, left)])
                self.assertEqual(sounder.beat(()), [("used", 9)] if left == 1 else [])
            self.assertEqual(sounder.out_of_use(), [])
            self.assertEqual(sounder.beat(()), [])

    def test_told_anew_meanwhile(self):
        for again in (1, 3, 10):
            sounder = Sounder(OUTS)
            sounder.put_out(9, 5)
            sounder.beat(())
            sounder.beat(())
            sounder.put_out(9, again)
            self.assertEqual(sounder.out_of_use(), [(9, again)])
            told = [sounder.beat(()) for _ in range(again)]
            self.assertEqual(told, [[]] * (again - 1) + [[("used", 9)]])

    def test_told_anew_behind_its_end(self):
        sounder = Sounder(OUTS)
        sounder.put_out(9, 1)
        sounder.beat(())
        sounder.put_out(9, 1)
        self.assertEqual(sounder.beat(()), [("used", 9)])

    def test_what_it_is_goes_on(self):
        sounder = Sounder(((9, 2),))
        sounder.put_out(9, 4)
        self.assertEqual(sounder.beat((9,)), [("waiting", 9)])
        self.assertEqual(sounder.lengthen(9), 4)
        self.assertEqual(sounder.press(), [9])
        self.assertEqual(sounder.beat((9,)), [("sounding", 9)])
        self.assertEqual((sounder.state_of(9), sounder.sounded()), (("sounding", 0), []))
        self.assertEqual(sounder.silence(), [9])
        self.assertEqual(sounder.beat(()), [])
        self.assertEqual(sounder.state_of(9), ("silenced", 0))
        self.assertEqual(sounder.beat((9,)), [("sounding", 9), ("used", 9)])
        self.assertEqual(sounder.sounded(), [9])

    def test_sounded_are_those_in_use(self):
        sounder = Sounder(((1, 0), (2, 0), (3, 0)))
        sounder.beat((1, 2, 3))
        sounder.put_out(2, 2)
        self.assertEqual(sounder.sounded(), [1, 3])
        sounder.beat((1, 2, 3))
        self.assertEqual(sounder.sounded(), [1, 3])
        self.assertEqual(sounder.beat((1, 2, 3)), [("used", 2)])
        self.assertEqual(sounder.sounded(), [1, 2, 3])

    def test_events_of_use_stand_behind_the_others(self):
        sounder = Sounder(((1, 0), (2, 0), (3, 0), (4, 0)))
        sounder.put_out(4, 1)
        sounder.put_out(1, 1)
        sounder.put_out(2, 2)
        self.assertEqual(sounder.out_of_use(), [(1, 1), (2, 2), (4, 1)])
        self.assertEqual(sounder.beat((2, 3)), [("sounding", 2), ("sounding", 3), ("used", 1), ("used", 4)])
        self.assertEqual(sounder.out_of_use(), [(2, 1)])

    def test_hands_do_not_shorten_it(self):
        sounder = sounding_one()
        sounder.put_out(5, 3)
        sounder.silence()
        sounder.press()
        sounder.reset()
        self.assertEqual(sounder.out_of_use(), [(5, 3)])


class Refusals(unittest.TestCase):
    def refused(self, deed, *things):
        with self.assertRaises(HouseError) as caught:
            deed(*things)
        return caught.exception.__class__

    def test_strangers(self):
        sounder = Sounder(OUTS)
        sounder.beat((5, 7, 9))
        sounder.put_out(9, 7)
        before = (states(sounder), sounder.out_of_use(), sounder.sounded())
        for thing in STRANGERS:
            self.assertIs(self.refused(sounder.lengthen, thing), NoAddress)
            self.assertIs(self.refused(sounder.state_of, thing), NoAddress)
            for beats in (1, 60):
                self.assertIs(self.refused(sounder.put_out, thing, beats), NoAddress)
            self.assertEqual((states(sounder), sounder.out_of_use(), sounder.sounded()), before)
        self.assertEqual(sounder.lengthen(9), 6)

    def test_a_truth_is_no_address(self):
        sounder = Sounder(((1, 2),))
        sounder.beat((1,))
        for deed, rest in ((sounder.lengthen, ()), (sounder.state_of, ()), (sounder.put_out, (3,))):
            self.assertIs(self.refused(deed, True, *rest), NoAddress)
        self.assertEqual((sounder.lengthen(1), sounder.out_of_use()), (4, []))

    def test_no_hand_changes_nothing(self):
        sounder = Sounder(OUTS)
        sounder.beat((5, 9))
        sounder.lengthen(9)
        before = states(sounder)
        for address in (5, 7, 9, 11):
            self.assertIs(self.refused(sounder.lengthen, address), NoHand)
        self.assertEqual(states(sounder), before)
        sounder.beat((7, 9))
        self.assertEqual(sounder.lengthen(7), 2)


class OwnThings(unittest.TestCase):
    def test_what_is_told_is_the_askers_own(self):
        sounder = Sounder(((5, 0), (7, 3)))
        sounder.put_out(7, 9)
        for told in (sounder.beat((5, 7)), sounder.press(), sounder.out_of_use(), sounder.sounded(), sounder.silence()):
            self.assertTrue(told)
            told.clear()
            told.append(99)
        self.assertEqual(states(sounder, ((5, 0), (7, 3))), {5: ("silenced", 0), 7: ("waiting", 1)})
        self.assertEqual((sounder.out_of_use(), sounder.sounded()), ([(7, 8)], []))
        sounder.beat(())
        told = sounder.reset()
        told.append(99)
        self.assertEqual(sounder.reset(), [])

    def test_later_deeds_change_no_answer(self):
        sounder = Sounder(((5, 0),))
        events = sounder.beat((5,))
        sounded = sounder.sounded()
        sounder.put_out(5, 9)
        out = sounder.out_of_use()
        silenced = sounder.silence()
        sounder.beat(())
        sounder.reset()
        self.assertEqual((events, sounded, out, silenced), ([("sounding", 5)], [5], [(5, 9)], [5]))

    def test_two_share_nothing(self):
        one, other = Sounder(OUTS), Sounder(OUTS)
        one.beat((5, 9))
        one.lengthen(9)
        one.put_out(5, 3)
        self.assertEqual(set(states(other).values()), {("still", 0)})
        self.assertEqual(other.out_of_use(), [])
        other.beat((9,))
        self.assertEqual(other.lengthen(9), 6)


class Histories(unittest.TestCase):
    def do(self, dice, outs, sounder, model):
        """One deed, done to both; what each told."""
        address = dice.choice(outs)[0]
        deed = dice.choice(("beat", "beat", "beat", "press", "silence", "reset", "lengthen", "put_out"))
        if deed == "beat":
            wanted = model.wanted[-1]
            if dice.random() < 0.6:
                wanted = tuple(address for address, _ in outs if dice.random() < dice.choice((0.1, 0.5, 0.9)))
            return sounder.beat(wanted), model.beat(wanted)
        if deed == "put_out":
            beats = dice.choice((1, 2, 3, 60))
            return sounder.put_out(address, beats), model.put_out(address, beats)
        if deed == "lengthen":
            expected = model.lengthen(address)
            try:
                return sounder.lengthen(address), expected
            except NoHand as error:
                return error.__class__, expected
        return getattr(sounder, deed)(), getattr(model, deed)()

    def test_seeded_deeds(self):
        for seed in range(150):
            dice = random.Random(seed)
            addresses = sorted(dice.sample(range(1, 100), dice.randint(1, 6)))
            outs = tuple((address, dice.choice((0, 1, 2, 5, 20))) for address in addresses)
            sounder, model = Sounder(outs), Model(outs)
            for _ in range(80):
                told, expected = self.do(dice, outs, sounder, model)
                self.assertEqual(told, expected)
                for out in model.outs:
                    left = out["left"] if out["how"] == "waiting" else 0
                    self.assertEqual(sounder.state_of(out["address"]), (out["how"], left))
                    # No bell that was wanted at the last beat is still.
                    if out["address"] in model.wanted[-1]:
                        self.assertNotEqual(out["how"], "still")
                self.assertEqual(sounder.out_of_use(), [
                    (out["address"], out["off"]) for out in model.outs if out["off"]])
                self.assertEqual(sounder.sounded(), [
                    out["address"] for out in model.outs if out["how"] == "sounding" and not out["off"]])


if __name__ == "__main__":
    unittest.main()
