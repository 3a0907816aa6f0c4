"""The list of calls that is handed in and the list of answers that is given back."""

import contextlib
import io
import unittest

from lines import ask, begin, clear, deliver, joined, lose, send, tick, write
from sealedorders.game import answers


class SealedList(list):
    """A list that fails at once when it is changed, be it for a while alone."""

    def refuse(self, *args, **kwargs):
        raise AssertionError("the list handed in was changed")

    append = extend = insert = remove = pop = clear = sort = reverse = refuse
    __setitem__ = __delitem__ = __iadd__ = __imul__ = refuse


# Each call of three games' worth, with its count and its answer.
STORY = (
    (tick(1), [1, -1]),
    (begin(8, 10, 5), [1, -2]),
    (begin(2, 10, 2), [1, 0]),
    (write(0, [1, 2, 3]), [1, 1]),
    (send(0), [1, 0]),
    (deliver(0), [1, 1]),
    (deliver(0), [1, 0]),
    (clear(1), [1, 1]),
    (send(1), [1, 0]),
    (ask(1), [1, 0]),
    (send(0), [1, -5]),
    (tick(10), [2, 10, 1]),
    (deliver(0), [1, 2]),
    (deliver(1), [1, 1]),
    (send(1), [1, -4]),
    (lose(0), [1, 0]),
    (lose(0), [1, -2]),
    (begin(7, 1, 100), [1, 0]),
    (write(6, [0] * 120), [1, 1]),
    (write(6, [0] * 121), [1, -2]),
    (write(6), [1, 2]),
    (tick(0), [2, 0, 0]),
    (tick(1000000), [2, 1000000, 1]),
    (send(6), [1, 0]),
    (send(6), [1, 0]),
    (deliver(1), [1, 2]),
    (deliver(1), [1, 1]),
    (send(6), [1, -4]),
    (begin(2, 1000000, 1), [1, 0]),
    (deliver(0), [1, -2]),
    (tick(999999), [2, 999999, 0]),
    (clear(0), [1, 1]),
    (ask(0), [1, 0]),
    (tick(1), [2, 1000000, 1]),
    (deliver(0), [1, 1]),
    (deliver(0), [1, 0]),
    (send(0), [1, -4]),
)


def story():
    return joined([call for call, answer in STORY])


class Answers(unittest.TestCase):
    def test_each_answer_behind_its_count(self):
        self.assertEqual(answers(story()), joined([answer for call, answer in STORY]))

    def test_each_beginning_of_the_list_is_answered_alike(self):
        for end in range(1, len(STORY) + 1):
            line = joined([call for call, answer in STORY[:end]])
            self.assertEqual(answers(line), joined([answer for call, answer in STORY[:end]]))

    def test_plain_numbers_in_a_plain_list(self):
        told = answers(story())
        self.assertIs(type(told), list)
        self.assertEqual({type(number) for number in told}, {int})

    def test_numbers_of_a_text_are_not_taken_for_calls(self):
        line = joined([begin(), write(0, [0, 2, 10, 5]), write(0, [1, 5]), write(0, [2] * 150), clear(0)])
        self.assertEqual(answers(line), [1, 0, 1, 1, 1, 2, 1, -2, 1, 3])

    def test_two_hundred_calls(self):
        line = joined([begin()] + [write(0, [9] * 70)] * 199)
        self.assertEqual(answers(line), [1, 0] + joined([[1, version] for version in range(1, 200)]))

    def test_one_call(self):
        self.assertEqual(answers([0, 2, 1, 1]), [1, 0])


class NothingLeftBehind(unittest.TestCase):
    def test_the_list_handed_in_is_the_same_afterwards(self):
        line = story()
        answers(line)
        self.assertEqual(line, story())

    def test_the_list_handed_in_is_not_changed_for_a_while_either(self):
        self.assertEqual(answers(SealedList(story())), answers(story()))

    def test_the_list_given_back_is_another(self):
        line = story()
        self.assertIsNot(answers(line), line)

    def test_a_second_time_gives_the_same(self):
        line = story()
        first = answers(line)
        kept = list(first)
        first.clear()
        self.assertEqual(answers(line), kept)

    def test_no_game_goes_on_in_the_next_list(self):
        answers(joined([begin(), write(0, [1]), send(0)]))
        self.assertEqual(answers(joined([send(0), begin(), send(0), write(0), deliver(0)])),
                         [1, -1, 1, 0, 1, -4, 1, 1, 1, -2])

    def test_nothing_is_printed(self):
        out = io.StringIO()
        with contextlib.redirect_stdout(out), contextlib.redirect_stderr(out):
            answers(story())
        self.assertEqual(out.getvalue(), "")


if __name__ == "__main__":
    unittest.main()
