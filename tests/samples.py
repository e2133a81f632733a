"""Values that several tests use, and a second, independent reckoning of families."""

from itertools import chain, combinations

from openshares.families import Family

NAMES = ("a", "b", "c", "d", "e")

DEEP = [{"k": ([{"a": ("a",)}],)}]

# No group of any persons.
NO_GROUPS = [
    None, True, False, 0, 1, -1, 2**80, "", "a", "ab", "a b", [], ["a"], ["a", "b"], [("a",)], {}, {"a": 1},
    {"a": "a"}, {("a",): ("a",)}, {(): ()}, DEEP, (None,), (True,), (False,), (0,), (1,), (("a",),), (["a"],), ({},),
    ({"a": 1},), ((),), ([],), (("a", "b"),), ("a", ("b",)), ("a", None), (None, "a"), ("a", True), ("a", 1), ("a", []),
    (DEEP,), ("",), ("", "a"), ("A",), ("a ",), ("a", "a"), ("b", "a"), ("a", "b", "a"), ("a", "b", "b"),
    ("ab",), ("a b",),
]

# No groups of a, b and c, for they have other persons or another order.
NO_GROUPS_OF_ABC = NO_GROUPS + [
    ("d",), ("a", "d"), ("a", "b", "c", "d"), ("c", "b"), ("c", "a"), ("a", "c", "b"), ("c", "b", "a"), ("b", "c", "a"),
    ("a", "b", "c", "a"), ["a", "b", "c"], ("a", "b", ["c"]), {"a": 1, "b": 2}, "abc",
]


def subsets(persons):
    """All groups of the persons: by their lengths, then as tuples."""
    return list(chain.from_iterable(combinations(sorted(persons), size) for size in range(len(persons) + 1)))


def all_least_groups(persons):
    """The lists of least groups of all families of the persons."""
    found = [[]]
    for group in subsets(persons)[1:]:
        found += [
            chosen + [group] for chosen in found if not any(set(other) <= set(group) for other in chosen)
        ]
    return found[1:]


def all_families(persons):
    return [Family(persons, groups) for groups in all_least_groups(persons)]


def some_families():
    """Every family of up to 4 persons, and every twentieth one of 5."""
    found = []
    for many in (1, 2, 3, 4):
        found += all_families(NAMES[:many])
    return found + all_families(NAMES)[::20]


def opening(family):
    """The set of the groups that open, reckoned from the least groups."""
    return {
        group for group in subsets(family.persons) if any(set(least) <= set(group) for least in family.groups)
    }


def least(groups):
    """The tuple of the groups that contain no other, in order."""
    kept = [group for group in groups if not any(set(other) < set(group) for other in groups)]
    return tuple(sorted(set(kept), key=lambda group: (len(group), group)))


def put_opening(family, name, other):
    """The set of the groups that open in put(family, name, other), by the words of point 55."""
    kept = [own for own in family.persons if own != name]
    one, two = opening(family), opening(other)
    found = set()
    for group in subsets(kept + list(other.persons)):
        own = {member for member in group if member in kept}
        if tuple(member for member in group if member in other.persons) in two:
            own.add(name)
        if tuple(sorted(own)) in one:
            found.add(group)
    return found
