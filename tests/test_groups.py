import itertools
import random
import unittest

from hall.groups import groups

LONG = 10 ** 60 - 1


def rows_of(pairs):
    return [(work, hand, 3) for work, hand in pairs]


def spread(pairs, hand):
    # All hands that are reached from this one, by asking over and over.
    reached, ahead = {hand}, set()
    while reached != ahead:
        ahead = set(reached)
        works = {work for work, other in pairs if other in reached}
        reached = {other for work, other in pairs if work in works}
    return sorted(reached)


def wanted(pairs):
    found = []
    for hand in sorted({hand for work, hand in pairs}):
        if spread(pairs, hand) not in found:
            found.append(spread(pairs, hand))
    return sorted(found)


class Case(unittest.TestCase):
    def assert_groups(self, rows, expected):
        handed = list(rows)
        told = groups(handed)
        self.assertEqual(told, expected)
        self.assertEqual([type(part) for part in [told] + told], [list] * (len(expected) + 1))
        self.assertEqual(handed, list(rows))

    def assert_groups_in_every_order(self, pairs, expected):
        for order in itertools.permutations(rows_of(pairs)):
            self.assert_groups(order, expected)


class Written(Case):
    def test_no_rows(self):
        self.assert_groups([], [])

    def test_a_hand_alone(self):
        self.assert_groups([("ode", "ann", 0)], [["ann"]])
        self.assert_groups([("ode", "ann", 7), ("lay", "ann", 7), ("air", "ann", 0)], [["ann"]])

    def test_two_hands_of_one_work(self):
        self.assert_groups_in_every_order([("ode", "bob"), ("ode", "ann")], [["ann", "bob"]])

    def test_many_hands_of_one_work(self):
        hands = ["ann", "bob", "cat", "dan", "eve"]
        self.assert_groups_in_every_order([("ode", hand) for hand in reversed(hands)], [hands])

    def test_joined_step_by_step(self):
        chain = [("ode", "dan"), ("ode", "ann"), ("lay", "ann"), ("lay", "cat"), ("air", "cat"), ("air", "bob")]
        self.assert_groups_in_every_order(chain, [["ann", "bob", "cat", "dan"]])

    def test_a_late_work_joins_several_groups(self):
        apart = rows_of([("ode", "dan"), ("ode", "ann"), ("lay", "cat"), ("lay", "bob"), ("air", "eve")])
        self.assert_groups(apart, [["ann", "dan"], ["bob", "cat"], ["eve"]])
        late = rows_of([("song", "bob"), ("song", "ann"), ("song", "eve")])
        self.assert_groups(apart + late, [["ann", "bob", "cat", "dan", "eve"]])
        self.assert_groups(apart + late[:2], [["ann", "bob", "cat", "dan"], ["eve"]])

    def test_two_groups_apart(self):
        pairs = [("ode", "cat"), ("ode", "ann"), ("lay", "dan"), ("lay", "bob"), ("air", "bob"), ("song", "ann")]
        self.assert_groups_in_every_order(pairs, [["ann", "cat"], ["bob", "dan"]])

    def test_hands_without_a_common_work_stay_alone(self):
        pairs = [("ode", "cat"), ("lay", "bob"), ("air", "ann"), ("song", "bob")]
        self.assert_groups_in_every_order(pairs, [["ann"], ["bob"], ["cat"]])

    def test_works_and_hands_of_one_name_are_not_mixed_up(self):
        self.assert_groups_in_every_order([("ann", "bob"), ("bob", "cat"), ("cat", "ann")], [["ann"], ["bob"], ["cat"]])
        self.assert_groups_in_every_order([("ann", "ann"), ("bob", "bob"), ("ann", "bob")], [["ann", "bob"]])

    def test_like_marks_join_nothing(self):
        self.assert_groups([("ode", "ann", 5), ("lay", "bob", 5)], [["ann"], ["bob"]])
        self.assert_groups([("ode", "ann", 0), ("ode", "bob", LONG)], [["ann", "bob"]])

    def test_names_sorted_as_texts(self):
        pairs = [("x", "b"), ("x", "aaaaaaaa"), ("x", "ab"), ("x", "a"), ("y", "aa"), ("z", "zz"), ("z", "aab")]
        self.assert_groups(rows_of(pairs), [["a", "aaaaaaaa", "ab", "b"], ["aa"], ["aab", "zz"]])


class Told(Case):
    def test_what_is_told_is_the_askers_own(self):
        rows = rows_of([("ode", "ann"), ("ode", "bob"), ("lay", "cat")])
        first = groups(rows)
        first[0].append("more")
        first.append(["more"])
        self.assertEqual(groups(rows), [["ann", "bob"], ["cat"]])
        self.assertEqual(rows, rows_of([("ode", "ann"), ("ode", "bob"), ("lay", "cat")]))

    def test_rows_changed_afterwards_change_nothing(self):
        rows = rows_of([("ode", "ann"), ("lay", "bob")])
        told = groups(rows)
        rows.append(("ode", "bob", 1))
        self.assertEqual(told, [["ann"], ["bob"]])
        self.assertEqual(groups(rows), [["ann", "bob"]])


class Drawn(Case):
    def test_against_hands_reached_by_asking_over_and_over(self):
        chance = random.Random(7)
        for turn in range(300):
            works = ["w" + sign for sign in "abcdefghijkl"[:chance.randrange(1, 13)]]
            hands = ["h" + sign for sign in "abcdefghijkl"[:chance.randrange(1, 13)]]
            every = list(itertools.product(works, hands))
            pairs = chance.sample(every, min(len(every), chance.randrange(1, 20)))
            with self.subTest(pairs):
                self.assert_groups(rows_of(pairs), wanted(pairs))
                chance.shuffle(pairs)
                self.assert_groups(rows_of(pairs), wanted(pairs))

    def test_twelve_hands_with_sixty_works(self):
        works = ["w" + one + other for one in "abcdef" for other in "abcdefghij"]
        hands = ["h" + sign for sign in "abcdefghijkl"]
        chain = [(work, hands[(place + step) % 12]) for place, work in enumerate(works) for step in (0, 1)]
        self.assert_groups(rows_of(chain), [hands])
        self.assert_groups(rows_of(itertools.product(works, hands)), [hands])
        halves = [(work, hands[(place * 2 + step) % 12]) for place, work in enumerate(works) for step in (0, 4)]
        self.assert_groups(rows_of(halves), wanted(halves))
        self.assertEqual(len(wanted(halves)), 2)


if __name__ == "__main__":
    unittest.main()
