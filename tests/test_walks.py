import copy
import itertools
import unittest

from readings import gone, searched, texts
from samples import all_sample_parts, flat_net, nets_with_every_choice_closed, sample_parts

from lonewalks.errors import BadWalk, WalkError
from lonewalks.nets import Net
from lonewalks.walks import places, walks, weight


class PlacesAndWeights(unittest.TestCase):
    def refused(self, net, x, y, walk):
        for asked in (places, weight):
            with self.assertRaises(BadWalk) as caught:
                asked(net, x, y, walk)
            self.assertIsInstance(caught.exception, WalkError)
            self.assertIsInstance(caught.exception, ValueError)

    def test_a_walk_written_out(self):
        net = Net([[2, 3], [5, 7]], [[11, 13, 17]], [0], [1])
        self.assertEqual(places(net, 0, 0, "rur"), [(0, 0), (1, 0), (1, 1), (2, 1)])
        self.assertEqual(weight(net, 0, 0, "rur"), 2 * 13 * 7)
        self.assertEqual(places(net, 1, 0, "ru"), [(1, 0), (2, 0), (2, 1)])
        self.assertEqual(weight(net, 1, 0, "ru"), 3 * 17)
        self.assertEqual(weight(net, 0, 0, "urr"), 11 * 5 * 7)

    def test_the_walk_without_steps_from_each_crossing(self):
        for parts in all_sample_parts():
            net = Net(*parts)
            for x in range(net.columns):
                for y in range(net.rows):
                    self.assertEqual(places(net, x, y, ""), [(x, y)])
                    self.assertEqual(weight(net, x, y, ""), 1)

    def test_every_short_text_from_every_crossing_and_round_the_net(self):
        for columns, rows, turn in itertools.product((1, 2, 3, 4), (1, 2, 3), (0, 1, 4, 8)):
            net = Net(*sample_parts(columns, rows, 1, turn))
            for x, y in itertools.product(range(-1, columns + 1), range(-1, rows + 1)):
                for walk in texts(columns + rows - 1):
                    told = gone(net, x, y, walk)
                    if told is None:
                        self.refused(net, x, y, walk)
                    else:
                        self.assertEqual((places(net, x, y, walk), weight(net, x, y, walk)), told)

    def test_the_kinds(self):
        net = flat_net(3, 3, [0], [2])
        told = places(net, 0, 0, "ruru")
        self.assertIs(type(told), list)
        for place in told:
            self.assertIs(type(place), tuple)
        self.assertIs(type(weight(net, 0, 0, "ruru")), int)

    def test_the_longest_walk_of_the_greatest_weight(self):
        net = Net([[1000] * 7 for row in range(8)], [[1000] * 8 for row in range(7)], [0], [7])
        self.assertEqual(weight(net, 0, 0, "ru" * 7), 1000 ** 14)
        self.assertEqual(places(net, 0, 0, "ru" * 7)[-1], (7, 7))

    def test_closed_steps(self):
        net = Net([[0, 1], [1, 0]], [[1, 0, 1]], [0], [1])
        for x, y, walk in ((0, 0, "r"), (1, 0, "u"), (1, 1, "r"), (0, 0, "urr"), (0, 0, "ru")):
            self.refused(net, x, y, walk)
        self.assertEqual(places(net, 0, 0, "ur"), [(0, 0), (0, 1), (1, 1)])
        self.assertEqual(weight(net, 1, 0, "ru"), 1)

    def test_steps_off_the_net(self):
        net = flat_net(3, 2, [0], [1])
        for x, y, walk in ((2, 0, "r"), (2, 1, "r"), (0, 1, "u"), (2, 1, "u"), (0, 0, "rrr"), (0, 0, "uu"),
                           (0, 0, "rrur"), (0, 0, "ururur")):
            self.refused(net, x, y, walk)
        lone = Net([[]], [], [0], [0])
        self.refused(lone, 0, 0, "r")
        self.refused(lone, 0, 0, "u")

    def test_other_letters(self):
        net = flat_net(3, 3, [0], [2])
        for walk in ("x", "R", "U", "rU", "r u", " ", "ru\n", "d", "l", "ruq", "qru", "r,u", "\u0440", "0"):
            self.refused(net, 0, 0, walk)

    def test_crossings_off_the_net(self):
        net = flat_net(3, 2, [0], [1])
        for x, y in ((-1, 0), (0, -1), (-1, -1), (3, 0), (0, 2), (3, 2), (2, 3), (-3, 1), (1, -2), (100, 0), (0, 100)):
            for walk in ("", "r", "u", "ru", "rr", "uu"):
                self.refused(net, x, y, walk)

    def test_what_is_told_is_the_asker_s_own(self):
        net = flat_net(3, 3, [0], [2])
        for walk in ("", "ruru"):
            told = places(net, 0, 0, walk)
            before = list(told)
            told.append("more")
            told[0] = None
            self.assertEqual(places(net, 0, 0, walk), before)

    def test_the_net_stays_as_it_was(self):
        parts = sample_parts(4, 4, 2)
        net = Net(*parts)
        for walk in texts(5):
            for asked in (places, weight):
                try:
                    asked(net, 0, 0, walk)
                except BadWalk:
                    pass
        self.assertEqual((net.right, net.up, net.starts, net.ends), parts)


class Walks(unittest.TestCase):
    def compare(self, net):
        for one in range(len(net.starts)):
            for other in range(len(net.ends)):
                told = walks(net, one, other)
                self.assertIs(type(told), list)
                self.assertEqual(told, searched(net, one, other))

    def test_written_out_in_order(self):
        net = flat_net(3, 3, [0, 1], [1, 2])
        self.assertEqual(walks(net, 0, 0), ["rru", "rur", "urr"])
        self.assertEqual(walks(net, 0, 1), ["rruu", "ruru", "ruur", "urru", "urur", "uurr"])
        self.assertEqual(walks(net, 1, 0), ["rr"])
        self.assertEqual(walks(net, 1, 1), ["rru", "rur", "urr"])

    def test_closed_steps_written_out(self):
        net = Net([[1, 0], [1, 1], [0, 1]], [[1, 1, 1], [1, 0, 1]], [0], [2])
        self.assertEqual(walks(net, 0, 0), ["ruru", "urru"])

    def test_small_nets_with_every_step_open(self):
        for columns, rows in itertools.product(range(1, 5), range(1, 5)):
            border = list(range(rows))
            self.compare(flat_net(columns, rows, border, border))

    def test_small_nets_with_closed_steps(self):
        for columns, rows, turn in itertools.product(range(1, 5), range(1, 5), range(10)):
            right, up = sample_parts(columns, rows, 1, turn)[:2]
            border = list(range(rows))
            self.compare(Net(right, up, border, border))

    def test_every_choice_of_closed_steps_on_two_by_three(self):
        for net in nets_with_every_choice_closed():
            self.compare(net)

    def test_nets_of_25_crossings_and_long_ones(self):
        for columns, rows in ((5, 5), (8, 3), (3, 8)):
            starts = [0, 1, rows - 1]
            ends = [0, rows - 2, rows - 1]
            self.compare(flat_net(columns, rows, starts, ends))
            self.compare(Net(*sample_parts(columns, rows, 1, 3)[:2], starts, ends))

    def test_the_greatest_net(self):
        told = walks(flat_net(8, 8, [0], [7]), 0, 0)
        self.assertEqual(len(told), 3432)
        self.assertEqual(told, sorted(set(told)))

    def test_one_row_alone(self):
        for columns in range(1, 9):
            self.assertEqual(walks(flat_net(columns, 1, [0], [0]), 0, 0), ["r" * (columns - 1)])
        self.assertEqual(walks(Net([[1, 0, 1]], [], [0], [0]), 0, 0), [])

    def test_one_column_alone(self):
        for rows in range(1, 9):
            net = flat_net(1, rows, [0], [rows - 1])
            self.assertEqual(walks(net, 0, 0), ["u" * (rows - 1)])
        self.assertEqual(walks(Net([[], [], []], [[1], [0]], [0, 1], [1, 2]), 0, 0), ["u"])
        self.assertEqual(walks(Net([[], [], []], [[1], [0]], [0, 1], [1, 2]), 0, 1), [])
        self.assertEqual(walks(Net([[], [], []], [[1], [0]], [0, 1], [1, 2]), 1, 0), [""])

    def test_an_end_below_the_start(self):
        for columns in range(1, 6):
            net = flat_net(columns, 4, [2, 3], [0, 1])
            for one, other in itertools.product((0, 1), (0, 1)):
                self.assertEqual(walks(net, one, other), [])

    def test_every_step_closed(self):
        net = Net([[0, 0], [0, 0]], [[0, 0, 0]], [0, 1], [0, 1])
        for one, other in itertools.product((0, 1), (0, 1)):
            self.assertEqual(walks(net, one, other), [])

    def test_what_is_told_is_the_asker_s_own(self):
        nets = (flat_net(3, 3, [0], [2]), Net([[]], [], [0], [0]), flat_net(2, 2, [1], [0]))
        for net in nets:
            told = walks(net, 0, 0)
            before = list(told)
            told.append("more")
            told.reverse()
            self.assertEqual(walks(net, 0, 0), before)

    def test_the_net_stays_as_it_was_and_hangs_on_nothing_handed_in(self):
        parts = [[1, 2], [0, 3], [4, 5]], [[6, 7, 8], [9, 1, 2]], [0, 1], [1, 2]
        before = copy.deepcopy(parts)
        net = Net(*parts)
        told = walks(net, 0, 1)
        self.assertEqual(told, ["rruu", "ruru", "ruur", "uurr"])
        for row in parts[0] + parts[1]:
            for k in range(len(row)):
                row[k] = 0
        parts[2][:] = [3]
        parts[3][:] = [0]
        self.assertEqual(walks(net, 0, 1), told)
        self.assertEqual((net.right, net.up, net.starts, net.ends), before)

    def test_no_such_walker_or_end(self):
        for walkers in range(1, 5):
            net = flat_net(3, 4, list(range(walkers)), list(range(walkers)))
            for wrong in (-1, -walkers, -100, walkers, walkers + 1, 100):
                for one, other in ((wrong, 0), (0, wrong), (wrong, wrong), (walkers - 1, wrong), (wrong, walkers - 1)):
                    with self.assertRaises(BadWalk) as caught:
                        walks(net, one, other)
                    self.assertIsInstance(caught.exception, WalkError)


if __name__ == "__main__":
    unittest.main()
