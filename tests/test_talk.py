"""Points 13 and 14: talk, who is heard, two, lost and back."""

import random
import unittest

from samples import NO_NUMBERS, ODD_THINGS, nested
from warnloop.errors import HouseError, NoAddress
from warnloop.frames import frame, is_frame
from warnloop.talk import Talk

THIRTY = tuple(range(3, 93, 3))


def answers_of(turn, words):
    """A frame for each address that has a word."""
    return [frame(address, turn, word) for address, word in words.items()]


def hear_all(talk, word=0):
    return talk.beat(answers_of(talk.turn(), {address: word for address in THIRTY + (1, 2, 5, 98, 99)}))


def miss_beats(talk, many):
    return [talk.beat([]) for _ in range(many)]


class Turns(unittest.TestCase):
    def test_turns_go_round_behind_seven(self):
        talk = Talk((5,))
        turns = []
        for _ in range(20):
            turns.append(talk.turn())
            self.assertEqual(talk.turn(), turns[-1])
            talk.beat([])
        self.assertEqual(turns, [0, 1, 2, 3, 4, 5, 6, 7] * 2 + [0, 1, 2, 3])

    def test_a_frame_counts_at_its_own_turn_alone(self):
        for wait in range(24):
            for turn in range(8):
                talk = Talk((5,))
                miss_beats(talk, wait)
                talk.beat([frame(5, turn, 7)])
                self.assertEqual(talk.heard_now(), [5] if turn == wait % 8 else [])
                self.assertEqual(talk.word_of(5), 7 if turn == wait % 8 else None)

    def test_late_by_one_to_seven_beats(self):
        for late in range(1, 8):
            talk = Talk((5,))
            talk.beat([])
            told = frame(5, 1, 200)
            for _ in range(late):
                talk.beat([frame(5, talk.turn(), 3)])
            self.assertEqual(talk.beat([told, frame(5, talk.turn(), 3)]), [])
            self.assertEqual((talk.heard_now(), talk.word_of(5)), ([5], 3))


class Heard(unittest.TestCase):
    def test_ahead_of_all_beats(self):
        for addresses in ((1,), (99,), THIRTY):
            talk = Talk(addresses)
            self.assertEqual((talk.turn(), talk.heard_now(), talk.lost()), (0, [], []))
            self.assertEqual([talk.word_of(address) for address in addresses], [None] * len(addresses))

    def test_one_address(self):
        talk = Talk((1,))
        self.assertEqual(talk.beat([frame(1, 0, 0)]), [])
        self.assertEqual((talk.heard_now(), talk.word_of(1)), ([1], 0))
        self.assertEqual(talk.beat([]), [])
        self.assertEqual((talk.heard_now(), talk.word_of(1)), ([], 0))

    def test_thirty_addresses(self):
        talk = Talk(THIRTY)
        words = {address: address * 2 for address in reversed(THIRTY)}
        self.assertEqual(talk.beat(answers_of(0, words)), [])
        self.assertEqual(talk.heard_now(), list(THIRTY))
        self.assertEqual({address: talk.word_of(address) for address in THIRTY}, words)
        self.assertEqual(talk.beat(answers_of(1, {9: 255, 3: 0})), [])
        self.assertEqual(talk.heard_now(), [3, 9])
        self.assertEqual((talk.word_of(3), talk.word_of(9), talk.word_of(6)), (0, 255, 12))

    def test_one_word_as_often_as_it_comes(self):
        for many in (1, 2, 3, 200):
            talk = Talk((5, 6))
            self.assertEqual(talk.beat([frame(5, 0, 9)] * many), [])
            self.assertEqual((talk.heard_now(), talk.word_of(5)), ([5], 9))

    def test_two_hundred_things(self):
        talk = Talk(THIRTY)
        things = (ODD_THINGS * 10)[:169] + [frame(98, 0, 1)]
        answers = things + answers_of(0, {address: 1 for address in THIRTY})
        self.assertEqual(len(answers), 200)
        self.assertEqual(talk.beat(answers), [])
        self.assertEqual(talk.heard_now(), list(THIRTY))

    def test_strangers_are_not_counted(self):
        talk = Talk((5,))
        self.assertEqual(talk.beat([frame(4, 0, 1), frame(6, 0, 2), frame(5, 0, 3), frame(50, 0, 4)]), [])
        self.assertEqual((talk.heard_now(), talk.word_of(5)), ([5], 3))

    def test_one_number_put_otherwise_is_not_counted(self):
        told = frame(5, 0, 40)
        for at in range(4):
            for number in list(range(-300, 600, 7)) + [None, True, False, "5", 10 ** 5000]:
                spoilt = told[:at] + (number,) + told[at + 1:]
                if spoilt == told and not isinstance(number, bool):
                    continue
                talk = Talk((1, 5, 6))
                talk.beat([spoilt])
                self.assertEqual(talk.heard_now(), [], spoilt)
                talk.beat([frame(5, 1, 40), spoilt])
                self.assertEqual((talk.heard_now(), talk.word_of(5)), ([5], 40), spoilt)

    def test_things_that_are_no_frame_are_not_counted(self):
        told = frame(5, 0, 40)
        for thing in ODD_THINGS + [list(told), told[:3], told + (0,), (told,), [told], nested(11, told), str(told)]:
            talk = Talk((5,))
            self.assertEqual(talk.beat([thing]), [])
            self.assertEqual((talk.heard_now(), talk.word_of(5)), ([], None))
            self.assertEqual(talk.beat([thing, frame(5, 1, 1), thing]), [])
            self.assertEqual((talk.heard_now(), talk.word_of(5)), ([5], 1))


class Two(unittest.TestCase):
    def test_unlike_words_are_two(self):
        talk = Talk((5, 6))
        self.assertEqual(talk.beat([frame(5, 0, 1), frame(6, 0, 1), frame(5, 0, 2)]), [("two", 5)])
        self.assertEqual((talk.heard_now(), talk.word_of(5)), ([6], None))

    def test_two_leaves_the_word_heard_last(self):
        talk = Talk((5,))
        talk.beat([frame(5, 0, 8)])
        self.assertEqual(talk.beat([frame(5, 1, 1), frame(5, 1, 8)]), [("two", 5)])
        self.assertEqual(talk.word_of(5), 8)

    def test_two_is_told_once_while_it_lasts(self):
        talk = Talk((5,))
        two = [[frame(5, turn, 1), frame(5, turn, 2), frame(5, turn, 1)] for turn in range(8)]
        self.assertEqual(talk.beat(two[0]), [("two", 5)])
        self.assertEqual(talk.beat(two[1]), [])
        self.assertEqual(talk.beat(two[2]), [("lost", 5)])
        self.assertEqual(talk.beat(two[3]), [])
        self.assertEqual(talk.beat([]), [])
        self.assertEqual(talk.beat(two[5]), [("two", 5)])
        self.assertEqual(talk.beat([frame(5, 6, 1)]), [("back", 5)])
        self.assertEqual(talk.beat(two[7]), [("two", 5)])

    def test_two_ahead_of_lost(self):
        talk = Talk((5, 6))
        miss_beats(talk, 2)
        answers = [frame(address, 2, word) for address in (6, 5) for word in (0, 1)]
        self.assertEqual(talk.beat(answers), [("two", 5), ("lost", 5), ("two", 6), ("lost", 6)])

    def test_a_frame_of_another_turn_makes_no_two(self):
        talk = Talk((5,))
        self.assertEqual(talk.beat([frame(5, 0, 1), frame(5, 1, 2), frame(5, 7, 3)]), [])
        self.assertEqual((talk.heard_now(), talk.word_of(5)), ([5], 1))


class Lost(unittest.TestCase):
    def test_lost_at_the_third_beat_running_and_once(self):
        talk = Talk((5,))
        self.assertEqual(miss_beats(talk, 2), [[], []])
        self.assertEqual(talk.lost(), [])
        self.assertEqual(talk.beat([]), [("lost", 5)])
        self.assertEqual(talk.lost(), [5])
        self.assertEqual(miss_beats(talk, 30), [[]] * 30)
        self.assertEqual(talk.lost(), [5])

    def test_the_row_begins_anew_when_it_is_heard(self):
        talk = Talk((5,))
        for _ in range(5):
            self.assertEqual(miss_beats(talk, 2), [[], []])
            self.assertEqual(hear_all(talk), [])
        self.assertEqual(miss_beats(talk, 3), [[], [], [("lost", 5)]])

    def test_back_once_and_lost_again(self):
        talk = Talk((5,))
        miss_beats(talk, 7)
        self.assertEqual(hear_all(talk), [("back", 5)])
        self.assertEqual((talk.lost(), talk.heard_now()), ([], [5]))
        self.assertEqual(hear_all(talk), [])
        self.assertEqual(miss_beats(talk, 4), [[], [], [("lost", 5)], []])
        self.assertEqual(hear_all(talk), [("back", 5)])

    def test_heard_ahead_of_being_lost_tells_no_back(self):
        talk = Talk((5,))
        miss_beats(talk, 2)
        self.assertEqual(hear_all(talk), [])

    def test_two_counts_as_not_heard(self):
        talk = Talk((5,))
        self.assertEqual(talk.beat([]), [])
        self.assertEqual(talk.beat([frame(5, 1, 1), frame(5, 1, 2)]), [("two", 5)])
        self.assertEqual(talk.beat([]), [("lost", 5)])

    def test_addresses_rise(self):
        talk = Talk((2, 5, 98))
        miss_beats(talk, 2)
        self.assertEqual(talk.beat([frame(5, 2, 1)]), [("lost", 2), ("lost", 98)])
        self.assertEqual(talk.lost(), [2, 98])
        self.assertEqual(talk.beat([frame(98, 3, 1), frame(2, 3, 1)]), [("back", 2), ("back", 98)])
        self.assertEqual(talk.beat([]), [])
        self.assertEqual(talk.beat([frame(2, 5, 1)]), [("lost", 5)])

    def test_thirty_lost_and_back(self):
        talk = Talk(THIRTY)
        miss_beats(talk, 2)
        self.assertEqual(talk.beat([]), [("lost", address) for address in THIRTY])
        self.assertEqual(talk.lost(), list(THIRTY))
        self.assertEqual(hear_all(talk), [("back", address) for address in THIRTY])


class Words(unittest.TestCase):
    def test_strangers_are_refused(self):
        talk = Talk((1, 5))
        things = ODD_THINGS + [True, False, [5], (5,), "5", 0, 2, 4, 6, 100, -5, 10 ** 5000, nested(12, 5), {}]
        for thing in things:
            if thing == 1 and not isinstance(thing, bool):
                continue
            with self.assertRaises(HouseError) as caught:
                talk.word_of(thing)
            self.assertIs(caught.exception.__class__, NoAddress)
        self.assertEqual((talk.word_of(1), talk.word_of(5)), (None, None))

    def test_a_refusal_changes_nothing(self):
        talk = Talk((5,))
        miss_beats(talk, 2)
        for thing in NO_NUMBERS:
            self.assertRaises(NoAddress, talk.word_of, thing)
        self.assertEqual(talk.turn(), 2)
        self.assertEqual(talk.beat([]), [("lost", 5)])

    def test_edge_words(self):
        talk = Talk((99,))
        for turn, word in enumerate((255, 0, 128)):
            talk.beat([frame(99, turn, word)])
            self.assertEqual(talk.word_of(99), word)


class OwnThings(unittest.TestCase):
    def test_what_is_handed_in_is_not_changed(self):
        talk = Talk((5, 6))
        answers = [frame(5, 0, 1), [frame(6, 0, 1)], "x", frame(6, 0, 2)]
        talk.beat(answers)
        self.assertEqual(answers, [frame(5, 0, 1), [frame(6, 0, 1)], "x", frame(6, 0, 2)])
        answers.clear()
        self.assertEqual((talk.heard_now(), talk.word_of(6)), ([5, 6], 2))

    def test_what_is_told_is_the_askers_own(self):
        talk = Talk((5, 6))
        miss_beats(talk, 2)
        events, lost = talk.beat([frame(6, 2, 1)]), talk.lost()
        heard = talk.heard_now()
        hear_all(talk)
        self.assertEqual((events, lost, heard), ([("lost", 5)], [5], [6]))
        for told in (events, lost, heard, talk.lost(), talk.heard_now()):
            told.clear()
            told.append(7)
        self.assertEqual((talk.lost(), talk.heard_now()), ([], [5, 6]))

    def test_two_talks_share_nothing(self):
        addresses = (5, 6)
        one, other = Talk(addresses), Talk(addresses)
        hear_all(one, 9)
        self.assertEqual((one.turn(), other.turn(), other.word_of(5)), (1, 0, None))
        miss_beats(other, 3)
        self.assertEqual((one.lost(), other.lost()), ([], [5, 6]))


class Histories(unittest.TestCase):
    """Talk against a reckoning from all beats so far."""

    def states(self, addresses, beats):
        """By address, for each beat: the word heard, "two" or None."""
        told = {address: [] for address in addresses}
        for number, answers in enumerate(beats):
            for address in addresses:
                words = {
                    thing[2] for thing in answers
                    if is_frame(thing) and thing[0] == address and thing[1] == number % 8
                }
                told[address].append(min(words) if len(words) == 1 else "two" if words else None)
        return told

    def lost_behind(self, states):
        """Whether an address of these states is lost behind them all."""
        lost = False
        for at, state in enumerate(states):
            if isinstance(state, int):
                lost = False
            elif at >= 2 and not any(isinstance(one, int) for one in states[at - 2:at]):
                lost = True
        return lost

    def events(self, states):
        """The events of an address at the last of its beats, without the address."""
        found = []
        if states[-1] == "two" and states[-2:-1] != ["two"]:
            found.append("two")
        was, now = self.lost_behind(states[:-1]), self.lost_behind(states)
        if now != was:
            found.append("lost" if now else "back")
        return found

    def random_answers(self, dice, addresses, turn):
        answers = []
        for address in addresses:
            for _ in range(dice.choice((0, 0, 1, 1, 2, 3))):
                late = (turn - dice.randint(1, 7)) % 8
                told = frame(address, dice.choice((turn, turn, turn, late)), dice.randint(0, 2))
                if dice.random() < 0.2:
                    at = dice.randrange(4)
                    told = told[:at] + (told[at] + dice.choice((-1, 1, 5)),) + told[at + 1:]
                answers.append(told)
        answers.extend(dice.sample(ODD_THINGS, 2))
        dice.shuffle(answers)
        return answers

    def test_seeded_histories(self):
        for seed in range(40):
            dice = random.Random(seed)
            addresses = tuple(sorted(dice.sample(range(1, 100), dice.choice((1, 2, 4, 6)))))
            talk = Talk(addresses)
            beats = []
            for number in range(40):
                beats.append(self.random_answers(dice, addresses, number % 8))
                told = talk.beat(beats[-1])
                states = self.states(addresses, beats)
                expected = [(word, address) for address in addresses for word in self.events(states[address])]
                self.assertEqual(told, expected)
                self.assertEqual(talk.lost(), [one for one in addresses if self.lost_behind(states[one])])
                self.assertEqual(talk.heard_now(), [one for one in addresses if isinstance(states[one][-1], int)])
                for address in addresses:
                    words = [state for state in states[address] if isinstance(state, int)]
                    self.assertEqual(talk.word_of(address), words[-1] if words else None)


if __name__ == "__main__":
    unittest.main()
