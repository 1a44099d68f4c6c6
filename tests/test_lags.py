"""[91]: lags, which are integers for the names of gates."""

import itertools
import unittest

from helpers import HUGE, any_values, check_new, check_raises, no_names, small_net, spoil
from toldpast.errors import InvalidLags, InvalidName
from toldpast.lags import Lags

NAMES = ("g", "h", "p1", "abcdefgh")


def some_rows():
    """Rows of lags of all kinds."""
    found = [dict(zip(("g", "h"), lags)) for lags in itertools.product((-2, -1, 0, 1, 3), repeat=2)]
    return found + [{}, {"p1": 1}, {"g": HUGE, "h": -HUGE}, {"abcdefgh": -HUGE, "g": 1}]


class TestMade(unittest.TestCase):

    def test_document(self):
        one, other = Lags({"g": 2, "h": -1}), Lags({"h": 3})
        told = [(one | other).rows(), (one & other).rows(), (-one)["h"], one.is_below(other), abs(one - other)]
        self.assertEqual([{"g": 2, "h": 3}, {"h": -1}, 1, False, 6], told)

    def test_lags_of_names(self):
        for rows in some_rows():
            lags = Lags(rows=rows)
            self.assertEqual([rows.get(name, 0) for name in NAMES], [lags[name] for name in NAMES])

    def test_rows_tell_what_is_not_zero(self):
        for rows in some_rows():
            self.assertEqual({name: lag for name, lag in rows.items() if lag != 0}, Lags(rows).rows())
        self.assertEqual([{}, {}], [Lags({"g": 0}).rows(), Lags({}).rows()])

    def test_integers_of_thirty_digits(self):
        lags = Lags({"g": HUGE, "h": -HUGE})
        self.assertEqual([HUGE, -HUGE, 2 * HUGE], [lags["g"], lags["h"], abs(lags)])
        self.assertEqual({"g": 2 * HUGE, "h": -2 * HUGE}, (lags + lags).rows())

    def test_lags_never_change(self):
        rows = {"g": 1}
        lags = Lags(rows)
        rows["g"] = 2
        rows["h"] = 3
        spoil(lags.rows())
        self.assertEqual({"g": 1}, lags.rows())
        check_new(self, lags.rows)
        other = Lags({"g": 5, "h": 7})
        for told in (lags | other, lags & other, lags + other, lags - other, -lags):
            self.assertIs(Lags, told.__class__)
        lags.is_below(other), abs(lags)
        lags += other
        self.assertEqual([{"g": 6, "h": 7}, {"g": 5, "h": 7}], [lags.rows(), other.rows()])

    def test_not_iterated_over(self):
        with self.assertRaises(TypeError):
            list(Lags({"g": 1}))


class TestRefused(unittest.TestCase):

    def test_no_dicts(self):
        for value in any_values():
            if not isinstance(value, dict):
                check_raises(self, InvalidLags, {"value": value}, Lags, value)
                check_raises(self, InvalidLags, {"value": value}, Lags, rows=value)

    def test_keys_that_are_no_names(self):
        for key in no_names():
            if isinstance(key, (str, int)):
                value = {"g": 1, key: 1}
                check_raises(self, InvalidLags, {"value": value}, Lags, value)
        for value in ({1: 1}, {"": 0}, {"abcdefghi": 0}, {"G": 0}):
            check_raises(self, InvalidLags, {"value": value}, Lags, value)
        self.assertEqual(1, Lags({"abcdefgh": 1})["abcdefgh"])

    def test_lags_that_are_no_integers(self):
        for lag in any_values():
            if lag.__class__ is not int:
                value = {"g": 1, "h": lag}
                check_raises(self, InvalidLags, {"value": value}, Lags, value)
        for lag in (True, False, None, "1", 0.0):
            value = {"g": lag}
            check_raises(self, InvalidLags, {"value": value}, Lags, value)

    def test_a_lag_of_what_is_no_name(self):
        lags = Lags({"g": 1})
        for value in no_names():
            check_raises(self, InvalidName, {"value": value}, lambda: lags[value])
        self.assertEqual([0, 0, 1], [lags["a"], lags["x1"], lags["g"]])


class TestEqual(unittest.TestCase):

    def test_equal_if_all_lags_are(self):
        for rows, others in itertools.product(some_rows(), repeat=2):
            same = all(rows.get(name, 0) == others.get(name, 0) for name in NAMES)
            self.assertIs(same, Lags(rows) == Lags(others))
            self.assertIs(not same, Lags(rows) != Lags(others))
        self.assertEqual(Lags({}), Lags({"g": 0}))
        self.assertEqual(Lags({"g": 1, "h": 2}), Lags({"h": 2, "g": 1}))

    def test_equal_to_nothing_else(self):
        for value in any_values() + [{}, {"g": 1}, [("g", 1)], small_net(), "g"]:
            if not isinstance(value, Lags):
                for lags in (Lags({}), Lags({"g": 1})):
                    self.assertIs(False, lags == value)
                    self.assertIs(True, value != lags)


class TestOperators(unittest.TestCase):

    def test_each_operator_name_by_name(self):
        for rows, others in itertools.product(some_rows(), repeat=2):
            one, other = Lags(rows), Lags(others)
            pairs = {name: (rows.get(name, 0), others.get(name, 0)) for name in NAMES}
            told = [one | other, one & other, one + other, one - other]
            for name, (here, there) in pairs.items():
                self.assertEqual([max(here, there), min(here, there), here + there, here - there],
                                 [lags[name] for lags in told])
                self.assertEqual(-here, (-one)[name])
            for lags in told:
                self.assertNotIn(0, lags.rows().values())
            self.assertIs(all(here <= there for here, there in pairs.values()), one.is_below(other))
            self.assertEqual(sum(abs(here) for here, _ in pairs.values()), abs(one))
            self.assertEqual((rows, others), (rows, others))

    def test_names_that_only_one_of_them_has(self):
        one, other = Lags({"g": -1}), Lags({"h": 2})
        self.assertEqual([{"h": 2}, {"g": -1}], [(one | other).rows(), (one & other).rows()])
        self.assertEqual([{"g": -1, "h": 2}, {"g": -1, "h": -2}], [(one + other).rows(), (one - other).rows()])
        self.assertEqual([True, False], [one.is_below(other), other.is_below(other=one)])

    def test_results_are_new(self):
        lags = Lags({"g": 1})
        for told in (lags | lags, lags & lags, lags + Lags({}), lags - Lags({}), -(-lags)):
            self.assertEqual(lags, told)
            spoil(told.rows())
        self.assertEqual({"g": 1}, lags.rows())
        self.assertEqual([True, True, 0], [lags.is_below(lags), Lags({}).is_below(lags), abs(Lags({}))])


if __name__ == "__main__":
    unittest.main()
