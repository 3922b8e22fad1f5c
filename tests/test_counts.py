import copy
import itertools
import unittest

from readings import det_read, lone_sum_read, lone_read, searched, sign_read, small_nets_and_companies, weight_read
from samples import all_sample_parts, flat_net, great_nets, parts_of, sample_parts

from lonewalks.companies import first_meeting
from lonewalks.counts import det, how_many, lone_weight, table
from lonewalks.nets import Net
from lonewalks.walks import walks, weight

GREAT = 10 ** 30 - 1


def sample_number(turn):
    """A whole number of up to thirty figures, below nought as often as above."""
    power = pow(7 + turn, 101, 2 * GREAT)
    # The upper figures mixed into the lower ones, which alone come round again soon.
    return (power + power // 10 ** 15) % (2 * GREAT) - GREAT


def sample_square(size, turn=0, most=GREAT):
    return [[sample_number(turn + 10 * y + x) % (2 * most + 1) - most for x in range(size)] for y in range(size)]


def plain(net):
    """The net whose open steps all have weight 1."""
    return Net([[int(step > 0) for step in steps] for steps in net.right],
               [[int(step > 0) for step in steps] for steps in net.up], net.starts, net.ends)


class Tables(unittest.TestCase):
    def test_written_out(self):
        net = Net([[2, 3], [5, 7]], [[11, 13, 17]], [0, 1], [0, 1])
        self.assertEqual(table(net), [[6, 2 * 3 * 17 + 2 * 13 * 7 + 11 * 5 * 7], [0, 35]])

    def test_closed_steps_written_out(self):
        net = Net([[2, 3], [5, 7]], [[11, 0, 17]], [0, 1], [0, 1])
        self.assertEqual(table(net), [[6, 2 * 3 * 17 + 11 * 5 * 7], [0, 35]])
        self.assertEqual(table(Net([[2, 0], [0, 7]], [[11, 0, 17]], [0, 1], [0, 1])), [[0, 0], [0, 0]])

    def test_the_sums_over_all_walks_of_small_nets(self):
        for net, found in small_nets_and_companies():
            numbers = range(len(net.starts))
            sums = [[sum(weight_read(Net(net.right, net.up, [net.starts[one]], [net.ends[other]]), [walk])
                         for walk in searched(net, one, other)) for other in numbers] for one in numbers]
            self.assertEqual(table(net), sums)

    def test_the_sums_over_the_walks_that_the_program_tells(self):
        for columns, rows in ((5, 5), (8, 3), (3, 8)):
            for turn in range(4):
                border = [0, 1, rows - 1]
                net = Net(*sample_parts(columns, rows, 1, turn)[:2], border, border)
                for one, row in enumerate(table(net)):
                    for other, told in enumerate(row):
                        sums = [weight(net, 0, border[one], walk) for walk in walks(net, one, other)]
                        self.assertEqual(told, sum(sums))

    def test_one_row_and_one_column(self):
        self.assertEqual(table(Net([[]], [], [0], [0])), [[1]])
        self.assertEqual(table(Net([[2, 3, 5]], [], [0], [0])), [[30]])
        self.assertEqual(table(Net([[2, 0, 5]], [], [0], [0])), [[0]])
        self.assertEqual(table(Net([[], [], []], [[7], [11]], [0, 1], [1, 2])), [[7, 77], [1, 11]])
        self.assertEqual(table(Net([[], [], []], [[7], [0]], [0, 1, 2], [0, 1, 2])), [[1, 7, 0], [0, 1, 0], [0, 0, 1]])

    def test_the_greatest_weights_on_the_greatest_net(self):
        net = Net([[1000] * 7 for row in range(8)], [[1000] * 8 for row in range(7)], [0, 7], [0, 7])
        self.assertEqual(table(net), [[1000 ** 7, 3432 * 1000 ** 14], [0, 1000 ** 7]])

    def test_a_square_of_whole_numbers(self):
        for parts in all_sample_parts():
            told = table(Net(*parts))
            self.assertIs(type(told), list)
            self.assertEqual([len(row) for row in told], [len(parts[2])] * len(parts[2]))
            for row in told:
                self.assertIs(type(row), list)
                self.assertEqual({type(number) for number in row}, {int})


class Determinants(unittest.TestCase):
    def test_written_out(self):
        for square, told in (
            ([], 1), ([[5]], 5), ([[-5]], -5), ([[0]], 0), ([[1, 2], [3, 4]], -2), ([[0, 1], [1, 0]], -1),
            ([[2, 0], [0, 3]], 6), ([[0, 2, 3], [4, 5, 6], [7, 8, 10]], -5), ([[2, -1, 0], [1, 3, 2], [0, 5, -4]], -48),
            ([[0, 0, 1], [1, 0, 0], [0, 1, 0]], 1), ([[0, 0, 1], [0, 1, 0], [1, 0, 0]], -1),
        ):
            self.assertEqual(det(square), told, square)
            self.assertIs(type(det(square)), int)

    def test_every_small_square_of_two_and_three_rows(self):
        for numbers in itertools.product(range(-3, 4), repeat=4):
            square = [list(numbers[:2]), list(numbers[2:])]
            self.assertEqual(det(square), numbers[0] * numbers[3] - numbers[1] * numbers[2])
        for numbers in itertools.product((-1, 0, 2), repeat=9):
            a, b, c, d, e, f, g, h, k = numbers
            told = det([[a, b, c], [d, e, f], [g, h, k]])
            self.assertEqual(told, a * (e * k - f * h) - b * (d * k - f * g) + c * (d * h - e * g))

    def test_squares_of_up_to_eight_rows(self):
        for size in range(9):
            for turn in range(0, 1500, 100):
                for most in (1, 2, 9, 1000, GREAT):
                    square = sample_square(size, turn, most)
                    self.assertEqual(det(square), det_read(square))

    def test_noughts_anywhere(self):
        for size in range(2, 9):
            for turn in range(12):
                square = sample_square(size, turn)
                for y, x in itertools.product(range(size), repeat=2):
                    if (turn * x + 3 * y + x * y) % 5 < 3:
                        square[y][x] = 0
                self.assertEqual(det(square), det_read(square))

    def test_first_numbers_of_nought(self):
        for size in range(2, 9):
            for noughts in range(1, size + 1):
                square = sample_square(size, noughts)
                for row in square[:noughts]:
                    row[0] = 0
                self.assertEqual(det(square), det_read(square))
                # Also where only the way through brings the nought up.
                square = sample_square(size, noughts)
                for row in square[1:noughts]:
                    row[:2] = square[0][:2]
                self.assertEqual(det(square), det_read(square))

    def test_rows_or_columns_alike(self):
        for size in range(2, 9):
            for one, other in itertools.combinations(range(size), 2):
                square = sample_square(size, one)
                square[other] = list(square[one])
                self.assertEqual(det(square), 0)
                square = sample_square(size, other)
                for row in square:
                    row[other] = row[one]
                self.assertEqual(det(square), 0)
                square = sample_square(size)
                square[other] = [-3 * number for number in square[one]]
                self.assertEqual(det(square), 0)

    def test_a_row_or_a_column_of_noughts(self):
        for size in range(1, 9):
            for which in range(size):
                square = sample_square(size)
                square[which] = [0] * size
                self.assertEqual(det(square), 0)
                square = sample_square(size)
                for row in square:
                    row[which] = 0
                self.assertEqual(det(square), 0)

    def test_every_choice_of_one_number_a_row(self):
        for size in range(1, 7):
            for chosen in itertools.permutations(range(size)):
                square = [[int(x == column) for x in range(size)] for column in chosen]
                self.assertEqual(det(square), sign_read(chosen))

    def test_numbers_of_thirty_figures_either_way(self):
        for size in range(1, 9):
            diagonal = [[GREAT if x == y else 0 for x in range(size)] for y in range(size)]
            self.assertEqual(det(diagonal), GREAT ** size)
            self.assertEqual(det([[-number for number in row] for row in diagonal]), (-GREAT) ** size)
            # 1 on the diagonal and GREAT - 1 everywhere, added: only a row's sum counts, once for each row.
            near = [[GREAT if x == y else GREAT - 1 for x in range(size)] for y in range(size)]
            self.assertEqual(det(near), 1 + size * (GREAT - 1))
        self.assertEqual(det([[GREAT, GREAT - 1], [GREAT - 1, GREAT - 2]]), -1)
        self.assertEqual(det([[-GREAT, GREAT], [GREAT, GREAT]]), -2 * GREAT * GREAT)

    def test_somewhat_more_rows_and_figures_than_eight_and_thirty(self):
        for size, most in ((9, GREAT), (10, 9), (8, 10 ** 40)):
            square = sample_square(size, 3, most)
            self.assertEqual(det(square), det_read(square))

    def test_two_rows_swapped_turn_the_sign(self):
        for size in range(2, 9):
            square = sample_square(size)
            for one, other in itertools.combinations(range(size), 2):
                swapped = list(square)
                swapped[one], swapped[other] = square[other], square[one]
                self.assertEqual(det(swapped), -det(square))


class LoneWeightsAndHowMany(unittest.TestCase):
    def test_written_out(self):
        net = Net([[2, 3], [5, 7], [11, 13]], [[17, 19, 23], [29, 31, 37]], [0, 1], [1, 2])
        lone = [["rru", "rur"], ["rru", "urr"], ["rur", "urr"]]
        self.assertEqual(lone_weight(net), sum(weight_read(net, company) for company in lone))
        self.assertEqual(how_many(net), 3)

    def test_the_signed_weights_of_all_companies_come_to_the_determinant(self):
        for net, found in small_nets_and_companies():
            signed = [sign_read(chosen) * weight_read(net, company) for company, chosen in found]
            self.assertEqual(sum(signed), det(table(net)))

    def test_those_that_are_not_lone_come_to_nought(self):
        for net, found in small_nets_and_companies():
            signed = [sign_read(chosen) * weight_read(net, company) for company, chosen in found
                      if first_meeting(net, company)]
            self.assertEqual(sum(signed), 0)

    def test_the_lone_ones_of_small_nets(self):
        for net, found in small_nets_and_companies():
            lone = lone_read(net, found)
            self.assertEqual(lone_weight(net), sum(weight_read(net, company) for company in lone))
            self.assertEqual(how_many(net), len(lone))

    def test_each_walker_of_a_lone_one_comes_to_the_end_of_its_own_number(self):
        for net, found in small_nets_and_companies():
            orders = [chosen for company, chosen in found if first_meeting(net, company) is None]
            self.assertEqual(orders, [list(range(len(net.ends)))] * len(orders))

    def test_great_nets(self):
        for net in great_nets():
            self.assertEqual(lone_weight(net), lone_sum_read(net))
            self.assertEqual(lone_weight(net), det(table(net)))
            self.assertEqual(how_many(net), lone_sum_read(plain(net)))

    def test_nets_of_every_size(self):
        for parts in all_sample_parts():
            net = Net(*parts)
            self.assertEqual(lone_weight(net), lone_sum_read(net))
            self.assertEqual(how_many(net), lone_sum_read(plain(net)))

    def test_known_counts(self):
        self.assertEqual(how_many(Net([[]], [], [0], [0])), 1)
        self.assertEqual(how_many(flat_net(8, 8, [0], [7])), 3432)
        self.assertEqual(how_many(flat_net(8, 8, [0, 1, 2, 3], [4, 5, 6, 7])), 232848)
        self.assertEqual(how_many(flat_net(8, 8, [0, 1, 2, 3], [0, 1, 2, 3])), 1)
        self.assertEqual(how_many(flat_net(8, 8, [4, 5, 6, 7], [0, 1, 2, 3])), 0)
        self.assertEqual(how_many(flat_net(1, 8, [0, 2, 4, 6], [1, 3, 5, 7])), 1)
        self.assertEqual(how_many(flat_net(1, 8, [0, 1], [1, 2])), 0)

    def test_the_greatest_weights(self):
        net = Net([[1000] * 7 for row in range(8)], [[1000] * 8 for row in range(7)], [0, 1, 2, 3], [4, 5, 6, 7])
        self.assertEqual(lone_weight(net), 232848 * 1000 ** 44)
        self.assertEqual(how_many(net), 232848)

    def test_every_step_closed(self):
        for columns, rows in ((1, 2), (2, 2), (8, 8)):
            shut = Net([[0] * (columns - 1)] * rows, [[0] * columns] * (rows - 1), [0, 1], [0, 1])
            self.assertEqual(how_many(shut), int(columns == 1))
            self.assertEqual(lone_weight(shut), int(columns == 1))

    def test_whole_numbers_alone(self):
        for net in great_nets():
            self.assertIs(type(lone_weight(net)), int)
            self.assertIs(type(how_many(net)), int)


class AskersOwn(unittest.TestCase):
    """Point 1 for counts."""

    def test_the_net_stays_as_it_was(self):
        for parts in all_sample_parts():
            net = Net(*parts)
            before = parts_of(net)
            for asked in (table, lone_weight, how_many):
                first = asked(net)
                self.assertEqual(asked(net), first)
                self.assertEqual(parts_of(net), before)

    def test_the_square_stays_as_it_was(self):
        for size in range(9):
            for turn in range(3):
                square = sample_square(size, turn, 3)
                before, rows = copy.deepcopy(square), list(square)
                det(square)
                self.assertEqual(square, before)
                self.assertTrue(all(one is other for one, other in zip(square, rows)))

    def test_a_square_whose_rows_are_one_list(self):
        row = [3, 1, 2]
        self.assertEqual(det([row, row, row]), 0)
        self.assertEqual(det([row, [1, 0, 0], row]), 0)
        self.assertEqual(row, [3, 1, 2])

    def test_a_square_changed_later_and_asked_again(self):
        square = [[1, 2], [3, 4]]
        self.assertEqual(det(square), -2)
        square[0][0] = 10
        self.assertEqual(det(square), 34)
        square.append([0, 0, 1])
        square[0].append(0)
        square[1].append(0)
        self.assertEqual(det(square), 34)

    def test_a_table_that_is_changed_leaves_the_next_one_as_it_was(self):
        for net in great_nets():
            told = table(net)
            before, parts = copy.deepcopy(told), parts_of(net)
            for row in told:
                row[0] = 77
                row.append(5)
            told.reverse()
            told.append([])
            self.assertEqual(table(net), before)
            self.assertEqual(lone_weight(net), det(before))
            self.assertEqual(parts_of(net), parts)

    def test_no_two_lists_of_a_table_are_one(self):
        for net in (flat_net(3, 4, [2, 3], [0, 1]), flat_net(8, 8, [0, 1, 2, 3], [4, 5, 6, 7])):
            told = [table(net), table(net)]
            every = told + told[0] + told[1] + [net.starts, net.ends, net.right, net.up] + net.right + net.up
            self.assertEqual(len({id(one) for one in every}), len(every))


if __name__ == "__main__":
    unittest.main()
