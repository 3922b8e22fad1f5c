import copy
import itertools
import unittest

from readings import first_meeting_read, order_read, sign_read, small_nets_and_companies, texts, weight_read
from samples import flat_net, great_nets, parts_of, sample_parts

from lonewalks.companies import exchanged, first_meeting, order, product, sign
from lonewalks.errors import BadCompany, WalkError
from lonewalks.nets import Net
from lonewalks.numbers import company_at, number_of

ALL = (order, sign, product, first_meeting, exchanged)
KINDS = (list, int, int, (tuple, type(None)), (list, type(None)))


def answers(net, company):
    return [asked(net, company) for asked in ALL]


class Written(unittest.TestCase):
    """Companies whose answers are written out by hand."""

    def setUp(self):
        self.net = Net([[2, 3], [5, 7], [11, 13]], [[17, 19, 23], [29, 31, 37]], [0, 1], [1, 2])
        self.tall = flat_net(3, 5, [0, 1, 2], [2, 3, 4])

    def test_a_lone_company(self):
        self.assertEqual(answers(self.net, ["rru", "urr"]), [[0, 1], 1, 2 * 3 * 23 * 29 * 11 * 13, None, None])

    def test_a_company_that_goes_crosswise(self):
        told = [[1, 0], -1, 2 * 3 * 23 * 37 * 5 * 7, (0, (2, 1), 1), ["rru", "rru"]]
        self.assertEqual(answers(self.net, ["rruu", "rr"]), told)

    def test_a_company_that_goes_straight_and_meets_at_an_end(self):
        told = [[0, 1], 1, 2 * 3 * 23 * 37 * 5 * 7, (0, (2, 1), 1), ["rruu", "rr"]]
        self.assertEqual(answers(self.net, ["rru", "rru"]), told)

    def test_a_meeting_at_a_start(self):
        told = [[0, 1], 1, 17 * 5 * 7 * 29 * 11 * 13, (0, (0, 1), 1), ["uurr", "rr"]]
        self.assertEqual(answers(self.net, ["urr", "urr"]), told)

    def test_a_meeting_between_start_and_end(self):
        told = [[0, 1], 1, 2 * 19 * 7 * 5 * 31 * 13, (0, (1, 1), 1), ["ruur", "rr"]]
        self.assertEqual(answers(self.net, ["rur", "rur"]), told)

    def test_of_three_at_one_crossing_the_two_least_change(self):
        told = answers(self.tall, ["ruur", "urru", "ruur"])
        self.assertEqual(told[:2] + told[3:], [[0, 1, 2], 1, (0, (1, 2), 1), ["ruuru", "urr", "ruur"]])

    def test_the_other_walker_may_stand_further_off(self):
        told = answers(self.tall, ["ruur", "uuurr", "rru"])
        self.assertEqual(told[:2] + told[3:], [[0, 2, 1], -1, (0, (1, 2), 2), ["ruuru", "uuurr", "rr"]])
        self.assertEqual((order(self.tall, told[4]), sign(self.tall, told[4])), ([1, 2, 0], 1))

    def test_the_lowest_walker_may_meet_none(self):
        net = flat_net(3, 4, [0, 1, 2], [0, 2, 3])
        self.assertEqual(first_meeting(net, ["rr", "rur", "rru"]), (1, (1, 2), 2))
        self.assertEqual(exchanged(net, ["rr", "rur", "rru"]), ["rr", "ruru", "rr"])

    def test_one_walker_alone_meets_none(self):
        net = Net([[2, 3], [5, 7]], [[11, 0, 13]], [0], [1])
        self.assertEqual(answers(net, ["rru"]), [[0], 1, 78, None, None])
        self.assertEqual(answers(net, ["urr"]), [[0], 1, 385, None, None])

    def test_walks_without_steps(self):
        self.assertEqual(answers(Net([[]], [], [0], [0]), [""]), [[0], 1, 1, None, None])
        column = Net([[], [], []], [[7], [11]], [0, 1, 2], [0, 1, 2])
        self.assertEqual(answers(column, ["", "", ""]), [[0, 1, 2], 1, 1, None, None])

    def test_one_column_alone(self):
        column = Net([[], [], []], [[7], [11]], [0, 1], [1, 2])
        self.assertEqual(answers(column, ["u", "u"]), [[0, 1], 1, 77, (0, (0, 1), 1), ["uu", ""]])
        self.assertEqual(answers(column, ["uu", ""]), [[1, 0], -1, 77, (0, (0, 1), 1), ["u", "u"]])

    def test_a_walk_may_pass_an_end_and_go_on(self):
        net = flat_net(2, 3, [0, 1], [0, 2])
        self.assertEqual(order(net, ["r", "ru"]), [0, 1])
        self.assertEqual(order(net, ["r", "ur"]), [0, 1])
        passing = flat_net(2, 3, [0, 1], [1, 2])
        self.assertEqual((order(passing, ["ruu", "r"]), first_meeting(passing, ["ruu", "r"])), ([1, 0], (0, (1, 1), 1)))


class Searched(unittest.TestCase):
    """The companies of small nets, all of them, against the document's words."""

    def test_order_sign_and_weight(self):
        for net, found in small_nets_and_companies():
            for company, chosen in found:
                self.assertEqual(order(net, company), chosen)
                self.assertEqual(sign(net, company), sign_read(chosen))
                self.assertEqual(product(net, company), weight_read(net, company))

    def test_first_meeting(self):
        met, others = 0, set()
        for net, found in small_nets_and_companies():
            for company, chosen in found:
                told = first_meeting(net, company)
                self.assertEqual(told, first_meeting_read(net, company))
                if told:
                    met += 1
                    others.add((told[0], told[2]))
        self.assertGreater(met, 1000)
        self.assertLessEqual({(0, 1), (0, 2), (1, 2)}, others)

    def test_the_exchange_is_a_company_of_the_same_weight_and_the_other_sign(self):
        for net, found in small_nets_and_companies():
            for company, chosen in found:
                told = exchanged(net, company)
                if first_meeting_read(net, company) is None:
                    self.assertIsNone(told)
                else:
                    self.assertIn(told, [other for other, taken in found])
                    self.assertEqual(product(net, told), weight_read(net, company))
                    self.assertEqual(sign(net, told), -sign_read(chosen))
                    self.assertEqual(first_meeting(net, told), first_meeting(net, company))
                    self.assertEqual(exchanged(net, told), company)

    def test_only_the_two_who_meet_change_and_only_from_the_place_on(self):
        for net, found in small_nets_and_companies():
            for company, chosen in found:
                meeting = first_meeting_read(net, company)
                if meeting is None:
                    continue
                one, (x, y), other = meeting
                cut, other_cut = x + y - net.starts[one], x + y - net.starts[other]
                told = exchanged(net, company)
                self.assertEqual(told[one], company[one][:cut] + company[other][other_cut:])
                self.assertEqual(told[other], company[other][:other_cut] + company[one][cut:])
                for walker in set(range(len(company))) - {one, other}:
                    self.assertEqual(told[walker], company[walker])

    def test_the_kinds(self):
        for net, found in small_nets_and_companies():
            for company, chosen in found:
                for told, kinds in zip(answers(net, company), KINDS):
                    self.assertIsInstance(told, kinds)
                    self.assertNotIsInstance(told, bool)
                meeting = first_meeting(net, company)
                if meeting:
                    self.assertEqual([type(part) for part in meeting], [int, tuple, int])

    def test_companies_of_the_greatest_net(self):
        net = flat_net(8, 8, [0, 1, 2, 3], [4, 5, 6, 7])
        company = ["rrrrrrruuuuuuu", "rrrrrruuuuru", "rrrrruuurr", "u" + "r" * 7]
        self.assertEqual(order(net, company), [3, 2, 1, 0])
        self.assertEqual(sign(net, company), 1)
        self.assertEqual(product(net, company), weight_read(net, company))
        self.assertEqual(first_meeting(net, company), first_meeting_read(net, company))
        self.assertEqual(exchanged(net, exchanged(net, company)), company)


class Refusals(unittest.TestCase):
    def refused(self, net, company):
        before, parts = list(company), parts_of(net)
        for asked in ALL + (number_of,):
            with self.assertRaises(WalkError) as caught:
                asked(net, company)
            self.assertIs(type(caught.exception), BadCompany)
        self.assertEqual(company, before)
        self.assertEqual(parts_of(net), parts)

    def test_a_walk_too_few_or_too_many(self):
        for net in (flat_net(3, 4, [0, 1], [2, 3]), flat_net(1, 2, [0, 1], [0, 1]), Net([[]], [], [0], [0])):
            company = company_at(net, 0)
            for wrong in ([], company[:-1], company[1:], company + [""], company + company, [""] + company):
                self.refused(net, wrong)

    def test_a_walk_that_stops_short_or_goes_beyond(self):
        net = flat_net(3, 4, [0, 1], [1, 2])
        self.assertEqual(order(net, ["rru", "urr"]), [0, 1])
        for wrong in (["rr", "urr"], ["rru", "ur"], ["", "urr"], ["rru", ""], ["rru", "urru"], ["rruuu", "urr"],
                      ["rru", "rruu"], ["ru", "urr"], ["r", "r"], ["", ""], ["rru", "u"]):
            self.refused(net, wrong)

    def test_a_row_that_is_an_end_s_in_another_column(self):
        net = flat_net(3, 3, [0, 1], [1, 2])
        for wrong in (["u", "urr"], ["ru", "urr"], ["rru", "u"], ["rru", "ru"], ["rru", "ur"]):
            self.refused(net, wrong)

    def test_the_last_column_in_a_row_without_an_end(self):
        net = flat_net(3, 4, [0, 1], [1, 3])
        for wrong in (["rr", "rruu"], ["rru", "rru"], ["rruu", "rr"]):
            self.refused(net, wrong)

    def test_a_closed_step(self):
        net = Net([[1, 0], [1, 1], [1, 1]], [[1, 1, 1], [0, 1, 1]], [0, 1], [1, 2])
        self.assertEqual(order(net, ["rur", "rur"]), [0, 1])
        for wrong in (["rru", "rur"], ["rur", "urr"], ["rru", "urr"], ["rruu", "rr"]):
            self.refused(net, wrong)

    def test_a_step_that_leads_off_the_net(self):
        net = flat_net(3, 3, [0, 1], [1, 2])
        for wrong in (["rrr", "urr"], ["rrur", "urr"], ["rru", "urrr"], ["rru", "urru"], ["rru", "uurr"],
                      ["rrru", "urr"], ["uuurr", "rr"], ["rru", "u" * 100], ["r" * 100, "urr"]):
            self.refused(net, wrong)

    def test_two_walks_to_one_end(self):
        net = flat_net(3, 3, [0, 1], [1, 2])
        for wrong in (["rru", "rr"], ["urr", "rr"], ["rruu", "rru"], ["uurr", "urr"]):
            self.refused(net, wrong)
        three = flat_net(2, 4, [0, 1, 2], [1, 2, 3])
        self.refused(three, ["ru", "ru", "r"])
        self.refused(three, ["ruuu", "ru", "ru"])

    def test_another_letter(self):
        net = flat_net(3, 3, [0, 1], [1, 2])
        for letter in ("x", "R", "U", "q", "\u0440", "l", "d"):
            for wrong in (["rr" + letter, "urr"], ["rru" + letter, "urr"], [letter + "rru", "urr"],
                          ["rru", "u" + letter + "r"], ["rru", letter], [letter, letter], ["rru", letter + "urr"]):
                self.refused(net, wrong)

    def test_every_pair_of_short_texts_on_small_nets(self):
        pool = list(texts(4)) + ["x", "rx", "xr", "rrx"]
        nets = [flat_net(2, 3, [0, 1], [1, 2]), flat_net(1, 3, [0, 1], [1, 2]), flat_net(3, 2, [0, 1], [0, 1]),
                Net(*sample_parts(3, 3, 1, 2)[:2], [0, 1], [1, 2]), flat_net(2, 3, [0, 2], [0, 2])]
        for net in nets:
            accepted = 0
            for company in itertools.product(pool, pool):
                chosen = order_read(net, company)
                if chosen is None:
                    self.refused(net, list(company))
                else:
                    self.assertEqual(order(net, list(company)), chosen)
                    accepted += 1
            self.assertGreater(accepted, 0)

    def test_a_net_without_companies(self):
        net = Net([[0], [0]], [[1, 1]], [0], [1])
        for walk in texts(4):
            self.refused(net, [walk])
        below = flat_net(3, 3, [1, 2], [0, 1])
        for company in itertools.product(texts(4), texts(4)):
            self.refused(below, list(company))

    def test_a_refusal_is_not_a_bad_walk_and_leaves_the_next_answer_alone(self):
        net = flat_net(3, 3, [0, 1], [1, 2])
        before = answers(net, ["rru", "rru"])
        self.refused(net, ["xyz", "rru"])
        self.assertEqual(answers(net, ["rru", "rru"]), before)


class AskersOwn(unittest.TestCase):
    """Point 1 for companies."""

    def test_nothing_handed_in_is_changed(self):
        for net, found in small_nets_and_companies():
            parts = parts_of(net)
            for company, chosen in found:
                before = list(company)
                answers(net, company)
                self.assertEqual(company, before)
            self.assertEqual(parts_of(net), parts)

    def test_an_answer_that_is_changed_leaves_the_next_one_as_it_was(self):
        net = flat_net(3, 3, [0, 1], [1, 2])
        for company in (["rru", "rru"], ["rruu", "rr"], ["urr", "urr"]):
            before = copy.deepcopy(answers(net, company))
            for asked in (order, exchanged):
                told = asked(net, company)
                told[0] = None
                told.append(5)
                told.reverse()
            self.assertEqual(answers(net, company), before)
            self.assertIsNot(exchanged(net, company), company)
            self.assertIsNot(exchanged(net, company), exchanged(net, company))
            self.assertIsNot(order(net, company), order(net, company))

    def test_an_order_is_not_a_list_of_the_net(self):
        net = flat_net(3, 2, [0, 1], [0, 1])
        order(net, ["rr", "rr"]).append(7)
        self.assertEqual((net.starts, net.ends), ([0, 1], [0, 1]))

    def test_a_company_changed_later_leaves_the_answer_as_it_was(self):
        net = flat_net(3, 3, [0, 1], [1, 2])
        company = ["rru", "rru"]
        told = answers(net, company)
        before = copy.deepcopy(told)
        company[0] = "xx"
        company.pop()
        self.assertEqual(told, before)
        self.assertEqual(answers(net, ["rru", "rru"]), before)


class GreatNets(unittest.TestCase):
    def test_a_lone_company_of_each(self):
        for net in great_nets():
            company = company_at(net, 0)
            self.assertEqual(order(net, company), list(range(len(net.starts))))
            self.assertEqual(sign(net, company), 1)
            self.assertEqual(product(net, company), weight_read(net, company))
            self.assertIsNone(first_meeting(net, company))
            self.assertIsNone(exchanged(net, company))


if __name__ == "__main__":
    unittest.main()
