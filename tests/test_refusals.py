"""What is refused, which refusal comes first, and that a refusal changes nothing."""

import unittest

from lines import (GREATEST, LEAST, all_but_begin, ask, bag, begin, clear, deliver, double, got, image, last_reply,
                   lose, more, played, replies, see, send, start, stop, tell, tick, umpire, write)
from sealedorders.game import Game


def beyond(least, greatest):
    return [LEAST, least - 1, greatest + 1, GREATEST]


class AheadOfBegin(unittest.TestCase):
    def test_each_call_but_begin_is_refused(self):
        calls = all_but_begin(0)
        self.assertEqual([call[0] for call in calls], list(range(1, 16)))
        for call in calls:
            self.assertEqual(replies(call), [[-1]], call)
        self.assertEqual(replies(*calls), [[-1]] * 15)

    def test_begin_is_not(self):
        self.assertEqual(replies(begin()), [[0]])

    def test_begin_out_of_range_is_refused_as_that(self):
        self.assertEqual(replies(begin(powers=1), tick(0)), [[-2], [-1]])

    def test_it_comes_before_the_range(self):
        for number in (LEAST, -1, GREATEST):
            for call in all_but_begin(number):
                self.assertEqual(replies(call), [[-1]], call)
        self.assertEqual(replies(tell(1000000), tell(1000001), got(0, 1000001)), [[-1]] * 3)

    def test_a_text_is_passed_over_whole(self):
        self.assertEqual(replies(write(0, [256] * 150), begin(), write(0, [0])), [[-1], [0], [1]])

    def test_nothing_is_changed(self):
        game = Game()
        more(game, *all_but_begin(0), *all_but_begin(1), begin(room=0))
        self.assertEqual(image(game), image(Game()))


class Begin(unittest.TestCase):
    RANGES = (("powers", 2, 7), ("span", 1, 1000000), ("room", 1, 100))

    def test_both_ends(self):
        for name, least, greatest in self.RANGES:
            for number in (least, greatest):
                self.assertEqual(replies(begin(**{name: number})), [[0]], (name, number))

    def test_beyond_both_ends(self):
        for name, least, greatest in self.RANGES:
            for number in beyond(least, greatest):
                self.assertEqual(replies(begin(**{name: number}), tick(0)), [[-2], [-1]], (name, number))

    def test_refused_on_a_game_that_is_begun_changes_nothing(self):
        game = played(begin(), write(0, [1]), send(0), deliver(0), tick(10), write(1), send(1))
        before = image(game)
        for name, least, greatest in self.RANGES:
            for number in beyond(least, greatest):
                self.assertEqual(more(game, begin(**{name: number})), [[-2]], (name, number))
                self.assertEqual(image(game), before)

    def test_all_anew_at_both_ends_on_a_game_that_is_begun(self):
        for powers, span, room in ((2, 1, 1), (7, 1000000, 100)):
            game = played(begin(3, 10, 5), write(0, [1]), write(0, [2]), send(0), deliver(0), deliver(0), tick(25),
                          ask(0), deliver(0), deliver(0), ask(2), write(1), send(1))
            self.assertEqual(more(game, begin(powers, span, room)), [[0]])
            self.assertEqual(image(game), image(played(begin(powers, span, room))))

    def test_what_is_there_at_the_beginning(self):
        self.assertEqual(image(played(begin(3, 20, 4))), {
            "game": (True, 20, 4, 0),
            "machines": [(0, 0, 0, None, ())] * 3,
            "umpire": (True, 0, 20, ()),
            "sheets": [(0, (0,))] * 3,
            "messages": [],
        })

    def test_powers_are_as_many_as_told(self):
        for powers in range(2, 8):
            self.assertEqual(replies(begin(powers), clear(powers - 1), clear(powers)), [[0], [1], [-2]])

    def test_room_is_as_told(self):
        for room in (1, 2, 100):
            told = replies(begin(room=room), *[ask(0)] * (room + 1))
            self.assertEqual(told, [[0]] * (room + 1) + [[-5]])


class Ranges(unittest.TestCase):
    def test_tick(self):
        for n in (0, 1000000):
            self.assertEqual(last_reply(begin(span=1000000), tick(n))[0], n)
        for n in beyond(0, 1000000):
            self.assertEqual(last_reply(begin(), tick(n)), [-2], n)

    def test_power(self):
        for powers in (2, 7):
            for p in (0, powers - 1):
                told = replies(begin(powers), write(p), clear(p), send(p), ask(p))
                self.assertEqual(told, [[0], [1], [2], [0], [0]])
            for p in beyond(0, powers - 1):
                for call in (write(p), clear(p), send(p), ask(p)):
                    self.assertEqual(last_reply(begin(powers), call), [-2], call)

    def test_length_of_a_text(self):
        for length in (0, 1, 119, 120):
            self.assertEqual(last_reply(begin(), write(0, [7] * length)), [1], length)
        for length in (121, 149, 150):
            self.assertEqual(last_reply(begin(), write(0, [7] * length)), [-2], length)

    def test_numbers_of_a_text(self):
        for number in (0, 1, 254, 255):
            self.assertEqual(last_reply(begin(), write(0, [number])), [1], number)
        for number in beyond(0, 255):
            for text in ([number], [number, 0, 0], [0, number, 0], [0, 0, number], [9] * 119 + [number]):
                self.assertEqual(last_reply(begin(), write(0, text)), [-2], text)

    def test_message(self):
        for call in (deliver, lose, double):
            for i in (0, 2):
                self.assertGreaterEqual(last_reply(begin(), ask(0), ask(1), ask(0), call(i))[0], 0)
            for i in beyond(0, 2):
                self.assertEqual(last_reply(begin(), ask(0), ask(1), ask(0), call(i)), [-2], i)

    def test_no_message_is_in_range_if_there_are_none(self):
        for call in (deliver, lose, double):
            for i in (LEAST, -1, 0, 1, GREATEST):
                self.assertEqual(last_reply(begin(), call(i)), [-2], i)
            self.assertEqual(last_reply(begin(), ask(0), lose(0), call(0)), [-2])
        self.assertEqual(last_reply(begin(), ask(0), deliver(0), deliver(0)), [-2])

    def test_power_that_is_looked_at(self):
        for powers in (2, 7):
            for p in (0, powers - 1):
                self.assertEqual(replies(begin(powers), see(p), got(p, 0))[1:], [[0, 0, 0, 0], [-7]])
            for p in beyond(0, powers - 1):
                self.assertEqual(replies(begin(powers), see(p), got(p, 0))[1:], [[-2], [-2]], p)

    def test_season(self):
        opened = [begin(), tick(10), ask(1), deliver(0), deliver(0)]
        self.assertEqual(replies(*opened, tell(0), got(1, 0))[-2:], [[2], [0, 0]])
        for season in (1, 999999, 1000000):
            self.assertEqual(replies(*opened, tell(season), got(1, season))[-2:], [[-7], [-7]], season)
        for season in beyond(0, 1000000):
            self.assertEqual(replies(*opened, tell(season), got(1, season))[-2:], [[-2], [-2]], season)
        for season in (0, 1000000):
            self.assertEqual(replies(begin(), tell(season), got(0, season))[1:], [[-7], [-7]], season)


class Order(unittest.TestCase):
    def test_tick(self):
        late = [begin()] + [tick(1000000)] * 100
        self.assertEqual(replies(tick(1000001), *late, tick(1000001), tick(1))[-2:], [[-2], [-3]])

    def test_send(self):
        told = replies(send(9), begin(room=1), ask(0), send(9), send(0), write(0), send(0), lose(0), send(0))
        self.assertEqual(told, [[-1], [0], [0], [-2], [-4], [1], [-5], [0], [0]])

    def test_ask(self):
        told = replies(ask(9), begin(room=1), ask(0), ask(9), ask(0), lose(0), ask(0))
        self.assertEqual(told, [[-1], [0], [0], [-2], [-5], [0], [0]])

    def test_double(self):
        told = replies(double(0), begin(room=1), double(0), ask(0), double(1), double(-1), double(0), lose(0),
                       double(0))
        self.assertEqual(told, [[-1], [0], [-2], [0], [-2], [-2], [-5], [0], [-2]])

    def test_stop_and_start(self):
        told = replies(stop(), start(), begin(), start(), stop(), stop(), start(), start(), stop())
        self.assertEqual(told, [[-1], [-1], [0], [-6], [0], [-6], [0], [-6], [0]])

    def test_tell(self):
        told = replies(tell(-1), begin(), tick(10), tell(-1), tell(1), stop(), tell(-1), tell(1000001), tell(1),
                       tell(0), start(), tell(1000001), tell(1), tell(0))
        self.assertEqual(told, [[-1], [0], [10, 1], [-2], [-7], [0], [-2], [-2], [-6], [-6], [1], [-2], [-7], [2]])

    def test_tell_without_room_is_not_refused(self):
        told = replies(begin(room=1), tick(10), ask(0), tell(0), tell(1), tell(1000001))
        self.assertEqual(told[-3:], [[0], [-7], [-2]])

    def test_got(self):
        told = replies(got(9, -1), begin(), got(2, 0), got(-1, 5), got(0, 1000001), got(0, -1), got(2, 1000001),
                       got(0, 0), got(1, 1000000))
        self.assertEqual(told, [[-1], [0], [-2], [-2], [-2], [-2], [-2], [-7], [-7]])

    def test_ask_needs_no_draft(self):
        self.assertEqual(replies(begin(), ask(0), ask(1)), [[0], [0], [0]])


class NothingChanges(unittest.TestCase):
    def assert_kept(self, game, refusal, *calls):
        before = image(game)
        for call in calls:
            self.assertEqual(more(game, call), [[refusal]], call)
            self.assertEqual(image(game), before, call)

    def test_out_of_range(self):
        game = played(begin(3, 10, 5), write(0, [1]), send(0), deliver(0), tick(12), ask(1), write(2, [3]), send(2))
        for number in (LEAST, -1, GREATEST):
            self.assert_kept(game, -2, *[call for call in all_but_begin(number) if len(call) > 1])
            self.assert_kept(game, -2, got(0, number), got(number, 0))
        self.assert_kept(game, -2, tick(1000001), write(3), clear(3), send(3), ask(3), deliver(3), lose(3), double(3),
                         tell(1000001), see(3), got(3, 0), got(0, 1000001))
        self.assert_kept(game, -2, write(0, [5] * 121), write(0, [5] * 150), write(0, [-1]), write(0, [0, 256]))

    def test_no_messages(self):
        self.assert_kept(played(begin()), -2, deliver(0), lose(0), double(0))

    def test_too_late(self):
        game = played(begin(span=1000000), *[tick(1000000)] * 100)
        self.assert_kept(game, -3, tick(1), tick(1000000))

    def test_no_draft(self):
        self.assert_kept(played(begin()), -4, send(0), send(1))

    def test_no_room(self):
        game = played(begin(room=2), write(0, [1]), send(0), ask(1))
        self.assert_kept(game, -5, send(0), ask(0), ask(1), double(0), double(1))

    def test_umpire_off_or_on(self):
        opened = [begin(), write(0, [1]), send(0), deliver(0), tick(10), ask(1)]
        self.assert_kept(played(*opened), -6, start())
        self.assert_kept(played(*opened, stop()), -6, stop(), tell(0), tell(1))
        self.assert_kept(played(*opened, stop(), tick(100)), -6, stop(), tell(0), tell(1))

    def test_season_not_there(self):
        game = played(begin(), write(0, [1]), send(0), deliver(0), tick(10), ask(1))
        self.assert_kept(game, -7, tell(1), tell(1000000), got(0, 0), got(1, 0), got(1, 1), got(0, 1000000))

    def test_looking_changes_nothing_either(self):
        for last in (tick(0), stop()):
            game = played(begin(), write(0, [1]), send(0), deliver(0), deliver(0), tick(10), ask(0), deliver(0),
                          deliver(0), write(0, [2]), send(0), ask(1), last)
            before = image(game)
            for call in (see(0), see(1), got(0, 0), umpire(), bag()):
                first = more(game, call)
                self.assertGreaterEqual(first[0][0], 0)
                self.assertEqual(more(game, call), first)
                self.assertEqual(image(game), before, call)


if __name__ == "__main__":
    unittest.main()
