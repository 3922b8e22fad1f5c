import itertools
import unittest

from readings import lone_read, lone_sum_read, meetings_read, small_nets_and_companies
from samples import flat_net, great_nets, parts_of, sample_parts

from lonewalks.companies import first_meeting, order
from lonewalks.counts import how_many
from lonewalks.errors import BadCompany, NoNumber, WalkError
from lonewalks.nets import Net
from lonewalks.numbers import company_at, number_of


def ahead_of(net, company):
    """How many lone companies stand ahead, by forbidding what was gone and what was not, one step after another."""
    right, up = [list(steps) for steps in net.right], [list(steps) for steps in net.up]
    for steps in right + up:
        steps[:] = [min(step, 1) for step in steps]
    found = 0
    for start, walk in zip(net.starts, company):
        x, y = 0, start
        for letter in walk:
            onward = right[y][x] if x + 1 < net.columns else 0
            upward = up[y][x] if y + 1 < net.rows else 0
            if letter == "u" and onward:
                up[y][x] = 0
                found += lone_sum_read(Net(right, up, net.starts, net.ends))
                up[y][x] = upward
                right[y][x] = 0
            elif letter == "r" and upward:
                up[y][x] = 0
            x, y = (x + 1, y) if letter == "r" else (x, y + 1)
    return found


class Numbered(unittest.TestCase):
    def refused(self, net, number):
        with self.assertRaises(WalkError) as caught:
            company_at(net, number)
        self.assertIs(type(caught.exception), NoNumber)

    def all_refused_but(self, net, count):
        for number in (-1, -2, -count, -count - 1, -10 ** 40, count, count + 1, 2 * count + 1, 10 ** 40):
            if not 0 <= number < count:
                self.refused(net, number)

    def go_through(self, net, numbers):
        last = []
        for number in numbers:
            company = company_at(net, number)
            self.assertEqual(number_of(net, company), number)
            self.assertEqual(meetings_read(net, company), [])
            self.assertEqual(order(net, company), list(range(len(net.starts))))
            # Walks to one end are equally long, so the order of point 13 is Python's own of such lists.
            self.assertLess(last, company)
            last = company

    def test_written_out(self):
        net = flat_net(3, 3, [0, 1], [1, 2])
        lone = [["rru", "rur"], ["rru", "urr"], ["rur", "urr"]]
        self.assertEqual([company_at(net, number) for number in range(3)], lone)
        self.assertEqual([number_of(net, company) for company in lone], [0, 1, 2])
        self.all_refused_but(net, 3)

    def test_one_walker_alone(self):
        net = Net([[1, 0], [1, 1], [0, 1]], [[1, 1, 1], [1, 0, 1]], [0], [2])
        self.assertEqual([company_at(net, number) for number in range(2)], [["ruru"], ["urru"]])
        self.all_refused_but(net, 2)

    def test_one_crossing_and_one_column(self):
        net = Net([[]], [], [0], [0])
        self.assertEqual(company_at(net, 0), [""])
        self.assertEqual(number_of(net, [""]), 0)
        self.all_refused_but(net, 1)
        column = flat_net(1, 8, [0, 2, 4, 6], [1, 2, 5, 7])
        self.assertEqual(company_at(column, 0), ["u", "", "u", "u"])
        self.assertEqual(number_of(column, ["u", "", "u", "u"]), 0)
        self.all_refused_but(column, 1)

    def test_every_lone_company_of_small_nets(self):
        for net, found in small_nets_and_companies():
            lone = lone_read(net, found)
            self.assertEqual([company_at(net, number) for number in range(len(lone))], lone)
            self.assertEqual([number_of(net, company) for company in lone], list(range(len(lone))))
            self.all_refused_but(net, len(lone))

    def test_nets_without_lone_companies(self):
        for net in (flat_net(3, 3, [1, 2], [0, 1]), Net([[0], [0]], [[1, 1]], [0], [1]), flat_net(1, 3, [0, 1], [1, 2]),
                    Net([[0] * 7] * 8, [[0] * 8] * 7, [0, 1, 2, 3], [4, 5, 6, 7])):
            self.all_refused_but(net, 0)

    def test_every_number_of_nets_between(self):
        for columns, rows, starts, ends in ((8, 3, [0, 1], [1, 2]), (5, 5, [0, 2], [2, 4]), (3, 8, [0, 1, 2], [4, 5, 6]),
                                            (4, 6, [0, 1, 2, 3], [2, 3, 4, 5])):
            for net in (flat_net(columns, rows, starts, ends),
                        Net(*sample_parts(columns, rows, 1, 4)[:2], starts, ends)):
                self.go_through(net, range(how_many(net)))

    def test_great_nets(self):
        for net in great_nets():
            count = how_many(net)
            self.assertGreater(count, 0)
            numbers = {0, 1, 2, count // 5, count // 3, count // 2, count // 2 + 1, 2 * count // 3, count - 2, count - 1}
            self.go_through(net, sorted(number for number in numbers if 0 <= number < count))
            self.all_refused_but(net, count)

    def test_the_number_is_how_many_stand_ahead(self):
        for net in great_nets():
            count = how_many(net)
            for number in (0, count // 7, count // 2, count - 1):
                self.assertEqual(ahead_of(net, company_at(net, number)), number)

    def test_the_first_and_the_last_of_the_greatest_net(self):
        net = flat_net(8, 8, [0, 1, 2, 3], [4, 5, 6, 7])
        first = ["rrrrrrruuuu", "rrrrrruuuur", "rrrrruuuurr", "rrrruuuurrr"]
        last = ["rrruuuurrrr", "rruuuurrrrr", "ruuuurrrrrr", "uuuurrrrrrr"]
        self.assertEqual((company_at(net, 0), company_at(net, 232847)), (first, last))
        self.assertEqual((number_of(net, first), number_of(net, last)), (0, 232847))
        self.refused(net, 232848)

    def test_weights_change_nothing(self):
        flat = flat_net(5, 5, [0, 1], [3, 4])
        heavy = Net([[1000] * 4] * 5, [[1000] * 5] * 4, [0, 1], [3, 4])
        light = Net([[1] * 4] * 5, [[1] * 5] * 4, [0, 1], [3, 4])
        for number in range(0, how_many(flat), 7):
            company = company_at(flat, number)
            for net in (heavy, light):
                self.assertEqual(company_at(net, number), company)
                self.assertEqual(number_of(net, company), number)

    def test_the_kinds(self):
        for net in great_nets():
            company = company_at(net, 0)
            self.assertIs(type(company), list)
            self.assertEqual({type(walk) for walk in company}, {str})
            self.assertIs(type(number_of(net, company)), int)


class Refusals(unittest.TestCase):
    """What is no company stands with the other companies' refusals."""

    def refused(self, net, company):
        with self.assertRaises(WalkError) as caught:
            number_of(net, company)
        self.assertIs(type(caught.exception), BadCompany)

    def test_companies_in_which_some_meet(self):
        for net, found in small_nets_and_companies():
            for company, chosen in found:
                if meetings_read(net, company):
                    self.refused(net, company)

    def test_the_ways_of_meeting_written_out(self):
        net = flat_net(3, 3, [0, 1], [1, 2])
        for company in (["rru", "rru"], ["rruu", "rr"], ["urr", "urr"], ["rur", "rur"], ["uurr", "rr"]):
            self.assertIsNotNone(first_meeting(net, company))
            self.refused(net, company)

    def test_lone_companies_of_another_net(self):
        net = flat_net(4, 4, [0, 1], [2, 3])
        for other in (flat_net(4, 4, [0, 1], [1, 2]), flat_net(3, 4, [0, 1], [2, 3]), flat_net(4, 4, [0], [3]),
                      flat_net(4, 4, [0, 1, 2], [1, 2, 3])):
            self.refused(net, company_at(other, 0))
        shut = Net([[0, 1, 1]] * 4, [[1] * 4] * 3, [0, 1], [2, 3])
        self.refused(shut, company_at(net, 0))

    def test_meetings_on_the_greatest_net(self):
        net = flat_net(8, 8, [0, 1, 2, 3], [4, 5, 6, 7])
        company = company_at(net, 1000)
        company[3] = "rrrrrrruuuu"
        self.assertIsNotNone(first_meeting(net, company))
        self.refused(net, company)


class AskersOwn(unittest.TestCase):
    """Point 1 for numbers."""

    def test_nothing_handed_in_is_changed(self):
        for net in great_nets():
            before = parts_of(net)
            company = company_at(net, how_many(net) - 1)
            self.assertEqual(parts_of(net), before)
            walks_before = list(company)
            number_of(net, company)
            self.assertEqual(parts_of(net), before)
            self.assertEqual(company, walks_before)

    def test_a_company_that_is_changed_leaves_the_next_one_as_it_was(self):
        for net in great_nets():
            for number in (0, how_many(net) // 2):
                told = company_at(net, number)
                before = list(told)
                told[0] = "changed"
                told.append("more")
                told.reverse()
                self.assertEqual(company_at(net, number), before)
                self.assertEqual(number_of(net, before), number)
                self.assertIsNot(company_at(net, number), company_at(net, number))

    def test_questions_of_two_nets_by_turns(self):
        one, other = flat_net(4, 4, [0, 1], [2, 3]), flat_net(4, 4, [0, 1], [1, 3])
        expected = [[company_at(net, number) for number in range(how_many(net))] for net in (one, other)]
        for number, (mine, yours) in enumerate(itertools.zip_longest(*expected)):
            for net, company in ((one, mine), (other, yours)):
                if company is not None:
                    self.assertEqual(company_at(net, number), company)
                    self.assertEqual(number_of(net, company), number)


if __name__ == "__main__":
    unittest.main()
