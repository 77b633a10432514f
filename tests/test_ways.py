import itertools
import unittest

from glasslayers.ways import above, leads, lies_under, shifted

FORTY = tuple([f"n{number}" for number in range(40)])
# "a" and "ab" begin alike, so that a mix-up of names and signs shows.
SMALL_WAYS = [way for length in range(4) for way in itertools.product(("0", "a", "ab"), repeat=length)]


class AboveTest(unittest.TestCase):
    def test_above(self):
        self.assertEqual(above(()), ())
        self.assertEqual(above(("a",)), ())
        self.assertEqual(above(("ab",)), ())
        self.assertEqual(above(("a", "b")), ("a",))
        self.assertEqual(above(("a", "b", "a")), ("a", "b"))
        self.assertEqual(above(FORTY), FORTY[:39])

    def test_it_is_a_tuple(self):
        for way in ((), ("a",), ("a", "b"), FORTY):
            self.assertIs(type(above(way)), tuple)

    def test_forty_steps_lead_to_the_root(self):
        way = FORTY
        for left in range(39, -1, -1):
            way = above(way)
            self.assertEqual(len(way), left)
        self.assertEqual(above(way), ())

    def test_argument(self):
        self.assertEqual(above(way=("a", "b")), ("a",))


class LiesUnderTest(unittest.TestCase):
    def test_under_its_beginnings(self):
        for count in range(40):
            self.assertIs(lies_under(FORTY, FORTY[:count]), True)
            self.assertIs(lies_under(FORTY[:count], FORTY), False)

    def test_no_way_lies_under_itself(self):
        for way in SMALL_WAYS + [FORTY]:
            self.assertIs(lies_under(way, way), False)

    def test_all_but_the_root_lie_under_the_root(self):
        for way in SMALL_WAYS + [FORTY]:
            self.assertIs(lies_under(way, ()), way != ())
            self.assertIs(lies_under((), way), False)

    def test_names_are_compared_whole(self):
        self.assertIs(lies_under(("ab",), ("a",)), False)
        self.assertIs(lies_under(("ab", "c"), ("a",)), False)
        self.assertIs(lies_under(("a", "b"), ("ab",)), False)
        self.assertIs(lies_under(("a", "bc", "d"), ("a", "b")), False)
        self.assertIs(lies_under(("a", "b", "d"), ("a", "b")), True)

    def test_longer_but_elsewhere(self):
        self.assertIs(lies_under(("b", "a"), ("a",)), False)
        self.assertIs(lies_under(("a", "c", "d"), ("a", "b")), False)
        self.assertIs(lies_under(("c", "b", "d"), ("a", "b")), False)

    def test_small_ways_against_steps_upward(self):
        for way in SMALL_WAYS:
            beginnings = [way[:count] for count in range(len(way))]
            for other in SMALL_WAYS:
                self.assertIs(lies_under(way, other), other in beginnings, (way, other))

    def test_arguments(self):
        self.assertIs(lies_under(way=("a",), other=()), True)
        self.assertIs(lies_under(other=("a",), way=()), False)


class LeadsTest(unittest.TestCase):
    def test_leads(self):
        self.assertEqual(leads(()), [])
        self.assertEqual(leads(("a",)), [])
        self.assertEqual(leads(("a", "b")), [("a",)])
        self.assertEqual(leads(("a", "b", "a")), [("a",), ("a", "b")])
        self.assertEqual(leads(("a", "a", "a", "a")), [("a",), ("a", "a"), ("a", "a", "a")])

    def test_forty_names(self):
        told = leads(FORTY)
        self.assertEqual(told, [FORTY[:count] for count in range(1, 40)])
        self.assertEqual(len(told), 39)

    def test_kinds(self):
        for way in ((), ("a",), ("a", "b", "c"), FORTY):
            told = leads(way)
            self.assertIs(type(told), list)
            for lead in told:
                self.assertIs(type(lead), tuple)

    def test_they_are_the_ways_under_the_root_above_the_way(self):
        for way in SMALL_WAYS:
            wanted = [other for other in SMALL_WAYS if other != () and lies_under(way, other)]
            self.assertEqual(leads(way), sorted(wanted, key=len))

    def test_a_told_list_is_the_askers_own(self):
        for way in ((), ("a",), ("a", "b", "c"), FORTY):
            told = leads(way)
            kept = list(told)
            later = leads(way)
            self.assertIsNot(told, later)
            told.append(("x",))
            told.insert(0, ())
            self.assertEqual(later, kept)
            self.assertEqual(leads(way), kept)
            later.clear()
            self.assertEqual(leads(way), kept)

    def test_argument(self):
        self.assertEqual(leads(way=("a", "b")), [("a",)])


class OrderTest(unittest.TestCase):
    def test_ways_that_are_told_come_in_order(self):
        wanted = [
            (), ("0",), ("0", "z"), ("00",), ("09",), ("0a",), ("1",), ("10",), ("2",), ("9",), ("9", "9", "9"),
            ("a",), ("a", "0"), ("a", "0", "a"), ("a", "a"), ("a", "ab"), ("a", "b"), ("a", "b", "c"), ("a", "z"),
            ("a0",), ("a9", "a"), ("aa",), ("ab",), ("ab", "a"), ("b",), ("b", "a"), ("z",), ("z", "z"), ("zz",),
        ]
        told = [shifted(way, (), ("m",)) for way in reversed(wanted)]
        self.assertEqual(sorted(told), [("m",) + way for way in wanted])
        self.assertEqual([shifted(way, ("m",), ()) for way in sorted(told)], wanted)

    def test_leads_come_in_order_ahead_of_the_way(self):
        for way in SMALL_WAYS + [FORTY]:
            ways = leads(way) + [way]
            self.assertEqual(sorted(reversed(ways)), ways)

    def test_the_way_above_comes_ahead(self):
        for way in SMALL_WAYS + [FORTY]:
            self.assertEqual(sorted([way, above(way)]), [above(way), way])


class ShiftedTest(unittest.TestCase):
    def test_the_way_itself(self):
        self.assertEqual(shifted(("a",), ("a",), ("b",)), ("b",))
        self.assertEqual(shifted(("a", "b"), ("a", "b"), ("c", "d", "e")), ("c", "d", "e"))
        self.assertEqual(shifted(FORTY, FORTY, ("x",)), ("x",))

    def test_ways_under_it(self):
        self.assertEqual(shifted(("a", "b"), ("a",), ("c",)), ("c", "b"))
        self.assertEqual(shifted(("a", "b", "a", "b"), ("a", "b"), ("c",)), ("c", "a", "b"))
        self.assertEqual(shifted(("a", "b", "c"), ("a",), ("x", "y")), ("x", "y", "b", "c"))
        self.assertEqual(shifted(FORTY, FORTY[:39], ("x",)), ("x", "n39"))

    def test_ways_that_stay(self):
        self.assertEqual(shifted((), ("a",), ("b",)), ())
        self.assertEqual(shifted(("b",), ("a",), ("c",)), ("b",))
        self.assertEqual(shifted(("b", "a"), ("a",), ("c",)), ("b", "a"))
        self.assertEqual(shifted(("a",), ("a", "b"), ("c",)), ("a",))
        self.assertEqual(shifted(("a", "c"), ("a", "b"), ("d",)), ("a", "c"))
        self.assertEqual(shifted(FORTY[:39], FORTY, ("x",)), FORTY[:39])

    def test_names_are_compared_whole(self):
        self.assertEqual(shifted(("ab",), ("a",), ("c",)), ("ab",))
        self.assertEqual(shifted(("ab", "c"), ("a",), ("d",)), ("ab", "c"))
        self.assertEqual(shifted(("a", "b"), ("ab",), ("c",)), ("a", "b"))
        self.assertEqual(shifted(("a", "bc"), ("a", "b"), ("d",)), ("a", "bc"))

    def test_from_the_root(self):
        self.assertEqual(shifted((), (), ("a",)), ("a",))
        self.assertEqual(shifted(("b",), (), ("a",)), ("a", "b"))
        self.assertEqual(shifted(("a", "b"), (), ("a", "b")), ("a", "b", "a", "b"))
        self.assertEqual(shifted((), (), ()), ())

    def test_to_the_root(self):
        self.assertEqual(shifted(("a",), ("a",), ()), ())
        self.assertEqual(shifted(("a", "b"), ("a",), ()), ("b",))
        self.assertEqual(shifted(("a", "a", "b"), ("a",), ()), ("a", "b"))
        self.assertEqual(shifted(("b",), ("a",), ()), ("b",))

    def test_to_a_way_under_it_and_above_it(self):
        self.assertEqual(shifted(("a", "b"), ("a",), ("a", "c")), ("a", "c", "b"))
        self.assertEqual(shifted(("a",), ("a",), ("a", "a")), ("a", "a"))
        self.assertEqual(shifted(("a", "c", "b"), ("a", "c"), ("a",)), ("a", "b"))
        self.assertEqual(shifted(("a", "c"), ("a", "c"), ("a",)), ("a",))

    def test_to_itself(self):
        for way in SMALL_WAYS:
            for old in SMALL_WAYS:
                self.assertEqual(shifted(way, old, old), way)

    def test_small_ways_against_name_by_name(self):
        new = ("x", "a")
        for old in SMALL_WAYS:
            for way in SMALL_WAYS:
                rest = list(way)
                for name in old:
                    if rest is not None:
                        rest = rest[1:] if rest and rest[0] == name else None
                wanted = way if rest is None else new + tuple(rest)
                self.assertEqual(shifted(way, old, new), wanted, (way, old))

    def test_there_and_back(self):
        for old in SMALL_WAYS:
            for way in SMALL_WAYS:
                if way != old and not lies_under(way, old):
                    continue
                for new in SMALL_WAYS:
                    there = shifted(way, old, new)
                    self.assertEqual(shifted(there, new, old), way, (way, old, new))

    def test_it_is_a_tuple(self):
        for way, old, new in [((), (), ()), (("a",), ("a",), ()), (("b",), ("a",), ("c",)), (FORTY, (), ("a",))]:
            self.assertIs(type(shifted(way, old, new)), tuple)

    def test_arguments(self):
        self.assertEqual(shifted(new=("c",), old=("a",), way=("a", "b")), ("c", "b"))


class HandedInTest(unittest.TestCase):
    def test_what_is_handed_in_stays_as_it_was(self):
        way, old, new = ("a", "b", "c"), ("a", "b"), ("x",)
        above(way)
        lies_under(way, old)
        leads(way).append(new)
        shifted(way, old, new)
        self.assertEqual((way, old, new), (("a", "b", "c"), ("a", "b"), ("x",)))

    def test_keys_and_members_still_find_ways_that_are_told(self):
        known = {("a",): 1, ("a", "b"): 2, ("x", "c"): 3}
        self.assertEqual([known[lead] for lead in leads(("a", "b", "c"))], [1, 2])
        self.assertEqual(known[shifted(("a", "b", "c"), ("a", "b"), ("x",))], 3)


if __name__ == "__main__":
    unittest.main()
