import copy
import unittest

from samples import SIDES, all_sample_parts, sample_parts

from lonewalks.errors import BadNet, WalkError
from lonewalks.nets import Net


def fields(net):
    return net.right, net.up, net.starts, net.ends


def every_list(net):
    return [net.right, net.up, net.starts, net.ends] + net.right + net.up


class Fields(unittest.TestCase):
    def test_parts_columns_and_rows_of_nets_of_every_size(self):
        for parts in all_sample_parts():
            net = Net(*parts)
            self.assertEqual(fields(net), parts)
            self.assertEqual((net.columns, net.rows), (len(parts[0][0]) + 1, len(parts[0])))

    def test_the_smallest_net(self):
        net = Net([[]], [], [0], [0])
        self.assertEqual(fields(net), ([[]], [], [0], [0]))
        self.assertEqual((net.columns, net.rows), (1, 1))

    def test_the_greatest_net_with_the_least_and_the_greatest_weights(self):
        for weight in (0, 1, 1000):
            right = [[weight] * 7 for row in range(8)]
            up = [[weight] * 8 for row in range(7)]
            net = Net(right, up, [0, 2, 5, 7], [0, 1, 6, 7])
            self.assertEqual(fields(net), (right, up, [0, 2, 5, 7], [0, 1, 6, 7]))
            self.assertEqual((net.columns, net.rows), (8, 8))

    def test_the_fields_are_lists_and_numbers(self):
        net = Net(*sample_parts(3, 4, 2))
        for told in every_list(net):
            self.assertIs(type(told), list)
        self.assertIs(type(net.columns), int)
        self.assertIs(type(net.rows), int)

    def test_starts_and_ends_may_be_any_rising_rows(self):
        right, up = sample_parts(3, 8, 1)[:2]
        for starts, ends in (([7], [0]), ([0], [7]), ([3, 4], [0, 7]), ([4, 5, 6, 7], [0, 1, 2, 3])):
            net = Net(right, up, starts, ends)
            self.assertEqual((net.starts, net.ends), (starts, ends))


class Copies(unittest.TestCase):
    def test_what_is_handed_in_is_not_changed(self):
        for parts in all_sample_parts():
            before = copy.deepcopy(parts)
            Net(*parts)
            self.assertEqual(parts, before)

    def test_lists_changed_later_leave_the_net_as_it_was(self):
        parts = sample_parts(4, 5, 3)
        before = copy.deepcopy(parts)
        net = Net(*parts)
        for row in parts[0] + parts[1]:
            row[0] = 77
            row.append(5)
        for part in parts:
            part.reverse()
            part.pop()
        self.assertEqual(fields(net), before)
        self.assertEqual((net.columns, net.rows), (4, 5))

    def test_no_two_lists_of_a_net_are_one(self):
        row = [1, 2]
        rows = [row, row, row]
        border = [0, 1]
        net = Net(rows, [[1, 2, 3]] * 2, border, border)
        told = every_list(net)
        self.assertEqual(len({id(one) for one in told}), len(told))

    def test_no_list_of_a_net_is_the_asker_s(self):
        parts = sample_parts(4, 5, 3)
        handed = {id(one) for one in list(parts) + parts[0] + parts[1]}
        for told in every_list(Net(*parts)):
            self.assertNotIn(id(told), handed)

    def test_two_nets_of_the_same_lists_share_none(self):
        parts = sample_parts(3, 3, 2)
        one, other = Net(*parts), Net(*parts)
        self.assertFalse({id(told) for told in every_list(one)} & {id(told) for told in every_list(other)})


class Refusals(unittest.TestCase):
    def refused(self, right, up, starts, ends):
        before = copy.deepcopy((right, up, starts, ends))
        with self.assertRaises(BadNet) as caught:
            Net(right, up, starts, ends)
        self.assertIsInstance(caught.exception, WalkError)
        self.assertIsInstance(caught.exception, ValueError)
        self.assertEqual((right, up, starts, ends), before)

    def test_each_weight_below_0_or_above_1000(self):
        for columns, rows in ((2, 1), (1, 2), (3, 4), (8, 8)):
            parts = sample_parts(columns, rows, 1)
            for part in (0, 1):
                for y, row in enumerate(parts[part]):
                    for x in range(len(row)):
                        for wrong in (-1, -1000, 1001, 10 ** 30):
                            spoilt = copy.deepcopy(parts)
                            spoilt[part][y][x] = wrong
                            self.refused(*spoilt)

    def test_each_list_of_steps_too_long_or_too_short(self):
        for columns, rows in ((2, 2), (3, 4), (8, 8)):
            parts = sample_parts(columns, rows, 1)
            for part in (0, 1):
                for y in range(len(parts[part])):
                    longer, shorter = copy.deepcopy(parts), copy.deepcopy(parts)
                    longer[part][y].append(1)
                    shorter[part][y].pop()
                    self.refused(*longer)
                    self.refused(*shorter)

    def test_a_list_of_steps_too_many_or_too_few(self):
        for columns in SIDES:
            for rows in SIDES:
                right, up, starts, ends = sample_parts(columns, rows, 1)
                starts = ends = [0]
                self.refused(right + [[1] * (columns - 1)], up, starts, ends)
                self.refused(right, up + [[1] * columns], starts, ends)
                self.refused(right[:-1], up, starts, ends)
                if rows > 1:
                    self.refused(right, up[:-1], starts, ends)
                    self.refused(right, [], starts, ends)

    def test_no_list_of_steps_right(self):
        self.refused([], [], [0], [0])
        self.refused([], [], [], [])
        self.refused([], [[1]], [0], [0])

    def test_nine_columns_or_rows(self):
        for other in SIDES:
            self.refused(*sample_parts(9, other, 1))
            self.refused(*sample_parts(other, 9, 1))
        self.refused(*sample_parts(9, 9, 1))

    def test_starts_and_ends(self):
        right, up = sample_parts(3, 6, 1)[:2]
        wrong = ([], [1, 0], [0, 2, 1], [0, 3, 2, 5], [2, 2], [0, 1, 1], [6], [0, 6], [0, 100], [-1], [-1, 0],
                 [-6, 1], [0, 1, 2, 3, 4], [5, 4, 3, 2])
        for border in wrong:
            fitting = list(range(len(border)))
            self.refused(right, up, border, fitting)
            self.refused(right, up, fitting, border)
            self.refused(right, up, border, border)

    def test_more_of_the_starts_than_of_the_ends_or_fewer(self):
        right, up = sample_parts(3, 6, 1)[:2]
        for few in range(5):
            for many in range(few + 1, 5):
                self.refused(right, up, list(range(few)), list(range(many)))
                self.refused(right, up, list(range(many)), list(range(few)))

    def test_five_walkers_on_the_greatest_net(self):
        right, up = sample_parts(8, 8, 1)[:2]
        self.refused(right, up, [0, 1, 2, 3, 4], [3, 4, 5, 6, 7])

    def test_a_refusal_leaves_later_nets_alone(self):
        right, up, starts, ends = sample_parts(3, 3, 2)
        self.refused(right, up, starts, [0, 3])
        self.assertEqual(fields(Net(right, up, starts, ends)), (right, up, starts, ends))


if __name__ == "__main__":
    unittest.main()
