"""Trees, things that are no trees, and slow answers straight from the document's words."""

import contextlib
import functools
import heapq
import itertools
import random
import signal

GREATEST = 10 ** 12 - 1


@contextlib.contextmanager
def at_once(seconds=20):
    """Fails what does not end, instead of waiting for it."""
    def too_long(number, frame):
        raise AssertionError(f"not answered within {seconds} seconds")

    before = signal.signal(signal.SIGALRM, too_long)
    signal.alarm(seconds)
    try:
        yield
    finally:
        signal.alarm(0)
        signal.signal(signal.SIGALRM, before)


def all_trees(first, last):
    if first == last:
        return [first]
    return [(left, right)
            for cut in range(first, last)
            for left in all_trees(first, cut)
            for right in all_trees(cut + 1, last)]


def left_chain(many):
    tree = 0
    for place in range(1, many):
        tree = (tree, place)
    return tree


def right_chain(many):
    tree = many - 1
    for place in reversed(range(many - 1)):
        tree = (place, tree)
    return tree


def halves(first, last):
    if first == last:
        return first
    cut = (first + last) // 2
    return halves(first, cut), halves(cut + 1, last)


def chance_tree(chance, first, last):
    if first == last:
        return first
    cut = chance.randrange(first, last)
    return chance_tree(chance, first, cut), chance_tree(chance, cut + 1, last)


def sample_trees(many):
    chance = random.Random(many)
    return [left_chain(many), right_chain(many), halves(0, many - 1)] + [
        chance_tree(chance, 0, many - 1) for again in range(5)]


def sample_heaps(many):
    chance = random.Random(1000 + many)
    return [(0,) * many, (1,) * many, (GREATEST,) * many,
            tuple(range(many)), tuple(range(many, 0, -1)),
            tuple(chance.randrange(10 ** 12) for heap in range(many)),
            tuple(chance.choice((0, 1, 2, GREATEST - 1, GREATEST)) for heap in range(many))]


def places_in(tree):
    if isinstance(tree, tuple):
        return places_in(tree[0]) + places_in(tree[1])
    return [tree]


def pairs_in(tree):
    if isinstance(tree, tuple):
        return [tree] + pairs_in(tree[0]) + pairs_in(tree[1])
    return []


def slow_cost(heaps, tree):
    return sum(heaps[place] for pair in pairs_in(tree) for place in places_in(pair))


def slow_depths(heaps, tree):
    return tuple(sum(place in places_in(pair) for pair in pairs_in(tree))
                 for place in range(len(heaps)))


def parts_changed(tree, change):
    """Each thing that comes of the tree when one of its parts is changed."""
    changed = [change(tree)]
    if isinstance(tree, tuple):
        left, right = tree
        changed += [(other, right) for other in parts_changed(left, change)]
        changed += [(left, other) for other in parts_changed(right, change)]
    return changed


def places_changed(tree, change):
    """Each thing that comes of the tree when one of its places is changed."""
    if isinstance(tree, tuple):
        left, right = tree
        return ([(other, right) for other in places_changed(left, change)]
                + [(left, other) for other in places_changed(right, change)])
    return [change(tree)]


def nested(many, thing=()):
    for again in range(many):
        thing = (thing,)
    return thing


def no_trees(many):
    """By their kinds: things that are no tree of so many heaps."""
    kinds = {
        "too many": sample_trees(many + 1),
        "too few": sample_trees(many - 1) if many > 1 else [],
        "not from 0 on": [halves(1, many), halves(-1, many - 2)],
        "nested deep": [(), nested(59), nested(60, 0), nested(60)],
        "nothing": [], "one": [], "three": [], "twice": [], "below 0": [], "too great": [],
        "out of order": [],
    }
    for tree in sample_trees(many):
        kinds["nothing"] += parts_changed(tree, lambda part: ())
        kinds["one"] += parts_changed(tree, lambda part: (part,))
        kinds["three"] += parts_changed(tree, lambda part: (part, many, many + 1))
        kinds["three"] += parts_changed(tree, lambda part: (part, (), ()))
        kinds["twice"] += parts_changed(tree, lambda part: (part, part))
        kinds["below 0"] += places_changed(tree, lambda place: place - many)
        kinds["below 0"] += places_changed(tree, lambda place: -1 - place)
        kinds["too great"] += places_changed(tree, lambda place: place + many)
        kinds["too great"] += places_changed(tree, lambda place: 10 ** 30)
        if many > 1:
            kinds["twice"] += places_changed(tree, lambda place: place - 1 if place else 1)
            kinds["out of order"] += parts_changed(
                tree, lambda part: part[::-1] if isinstance(part, tuple) else part + 1)
    return kinds


def heaps_of_kinds(many):
    """By their kinds: heaps with every sort of weights."""
    chance = random.Random(2000 + many)
    doubled = tuple(2 ** place for place in range(many))
    small = [tuple(chance.randrange(most) for heap in range(many)) for most in (2, 3, 4, 10)]
    great = [tuple(GREATEST if heap == place else chance.randrange(3) for heap in range(many))
             for place in sorted({0, many // 2, many - 1})]
    return {
        "small": small,
        "any": [tuple(chance.randrange(10 ** 12) for heap in range(many)) for again in range(3)],
        "alike": [(1,) * many, (7,) * many, (GREATEST,) * many],
        "noughts": [(0,) * many, tuple(place % 2 for place in range(many)), (0,) * (many - 1) + (1,)],
        "doubled": [doubled, doubled[::-1]],
        "rising": [tuple(range(many)), tuple(range(1, many + 1)), tuple(range(many, 0, -1))],
        "one great": great,
        "next to 10 ** 12": [tuple(GREATEST - chance.randrange(3) for heap in range(many)) for again in range(2)],
        "samples": sample_heaps(many),
    }


def many_heaps(many):
    return [heaps for kind in heaps_of_kinds(many).values() for heaps in kind]


def heaps_in_patterns(many):
    """Heaps whose weights follow one another in a pattern."""
    chance = random.Random(3000 + many)
    sums = [1, 1]
    while len(sums) < many:
        sums.append(sums[-2] + sums[-1])
    turns = [tuple((small, great)[(place + first) % 2] for place in range(many))
             for small, great in ((0, 1), (1, 2), (1, 100), (0, GREATEST)) for first in (0, 1)]
    bent = []
    for most in (3, 10, 10 ** 12):
        for cut in sorted({0, 1, many // 2, many - 1, many}):
            weights = [chance.randrange(most) for heap in range(many)]
            bent.append(tuple(sorted(weights[:cut], reverse=True) + sorted(weights[cut:])))
            bent.append(tuple(sorted(weights[:cut]) + sorted(weights[cut:], reverse=True)))
    return [tuple(sums[:many]), tuple(sums[:many][::-1])] + turns + bent


def every_heaps(many):
    return many_heaps(many) + heaps_in_patterns(many)


@functools.lru_cache(maxsize=None)
def trees_with_depths(many):
    """All trees of so many heaps, each behind its depths, in the order of these."""
    heaps = (1,) * many
    return tuple(sorted(((slow_depths(heaps, tree), tree) for tree in all_trees(0, many - 1)),
                        key=lambda pair: pair[0]))


@functools.lru_cache(maxsize=None)
def costs_one_by_one(heaps):
    """The costs of all trees, in the order of their depths."""
    return tuple(slow_cost(heaps, tree) for depths, tree in trees_with_depths(len(heaps)))


def slow_least(heaps):
    return min(costs_one_by_one(heaps))


def slow_cheapest(heaps):
    """All cheapest trees, in the order of their depths."""
    costs = costs_one_by_one(heaps)
    return [tree for cost, (depths, tree) in zip(costs, trees_with_depths(len(heaps))) if cost == min(costs)]


@functools.lru_cache(maxsize=None)
def cost_by_steps(heaps):
    """The least cost by quite another way, that of promise 15: good for many heaps, too."""
    row, cost = list(heaps), 0
    while len(row) > 1:
        k = 1
        while k < len(row) - 1 and row[k - 1] > row[k + 1]:
            k += 1
        together = row[k - 1] + row[k]
        cost += together
        del row[k - 1:k + 1]
        place = k - 1
        while place > 0 and row[place - 1] < together:
            place -= 1
        row.insert(place, together)
    return cost


@functools.lru_cache(maxsize=None)
def least_down(heaps):
    """The least cost from the root down: good for many heaps, too."""
    if len(heaps) == 1:
        return 0
    return sum(heaps) + min(least_down(heaps[:cut]) + least_down(heaps[cut:]) for cut in range(1, len(heaps)))


def stretch_cost(heaps, first, last):
    return cost_by_steps(heaps[first:last + 1])


def table_by_steps(heaps):
    many = len(heaps)
    return tuple(tuple(stretch_cost(heaps, first, last) for last in range(first, many)) for first in range(many))


def cheapest_down(heaps, first, last):
    """All cheapest trees of a stretch, from the root down, in any order: for many heaps with few such trees."""
    if first == last:
        return [first]
    least = stretch_cost(heaps, first, last) - sum(heaps[first:last + 1])
    return [(left, right)
            for cut in range(first, last)
            if stretch_cost(heaps, first, cut) + stretch_cost(heaps, cut + 1, last) == least
            for left in cheapest_down(heaps, first, cut)
            for right in cheapest_down(heaps, cut + 1, last)]


def depths_down(tree, depth=0):
    if isinstance(tree, tuple):
        return depths_down(tree[0], depth + 1) + depths_down(tree[1], depth + 1)
    return (depth,)


@functools.lru_cache(maxsize=None)
def within_down(heaps, bound):
    """The least cost with a bound on depth and the first depths with it, from the root down; None without any."""
    if len(heaps) == 1:
        return 0, (0,)
    if bound == 0:
        return None
    found = []
    for cut in range(1, len(heaps)):
        left, right = within_down(heaps[:cut], bound - 1), within_down(heaps[cut:], bound - 1)
        if left and right:
            found.append((left[0] + right[0] + sum(heaps), tuple(depth + 1 for depth in left[1] + right[1])))
    return min(found, default=None)


def slow_within(heaps, bound):
    """The least cost of all trees that go no deeper, and the first of these by its depths; None without any."""
    within = [(cost, tree) for cost, (depths, tree) in zip(costs_one_by_one(heaps), trees_with_depths(len(heaps)))
              if max(depths) <= bound]
    least = min((cost for cost, tree in within), default=None)
    return next((pair for pair in within if pair[0] == least), None)


def all_rows(many, weights):
    return list(itertools.product(weights, repeat=many))


def alike_depths(many):
    """In order the depths of all cheapest trees of heaps that weigh alike, but not nought: a full level of places,
    some of which are parted once more."""
    level = many.bit_length() - 1
    places = range(2 ** level)
    return sorted(
        tuple(depth for place in places for depth in ((level + 1,) * 2 if place in parted else (level,)))
        for parted in itertools.combinations(places, many - 2 ** level))


def slow_step(row):
    """One step over a row of pairs (weight, heaps in it), as the document tells it: the triple, and the row behind it."""
    weights = [weight for weight, gone_in in row]
    k = min(k for k in range(1, len(row)) if k == len(row) - 1 or weights[k - 1] <= weights[k + 1])
    together = weights[k - 1] + weights[k]
    not_less = [place for place in range(k - 1) if weights[place] >= together]
    place = max(not_less) + 1 if not_less else 0
    rest = row[:k - 1] + row[k + 1:]
    joined = (together, row[k - 1][1] + row[k][1])
    return (k, together, place), rest[:place] + [joined] + rest[place:]


def slow_steps(heaps):
    """The steps and the depths."""
    row = [(weight, [place]) for place, weight in enumerate(heaps)]
    steps, sums = [], []
    while len(row) > 1:
        before = [gone_in for weight, gone_in in row]
        step, row = slow_step(row)
        steps.append(step)
        sums += [gone_in for weight, gone_in in row if gone_in not in before]
    depths = tuple(sum(place in gone_in for gone_in in sums) for place in range(len(heaps)))
    return tuple(steps), depths


def by_a_queue(heaps):
    """The least cost by always joining the two lightest ones: good for many heaps, too."""
    queue = list(heaps)
    heapq.heapify(queue)
    cost = 0
    while len(queue) > 1:
        together = heapq.heappop(queue) + heapq.heappop(queue)
        heapq.heappush(queue, together)
        cost += together
    return cost


def turned(heaps, place):
    return heaps[place:] + heaps[:place]


def ring_by_all_cuts(heaps, cost):
    """The least cost of all cuts, and the first place with it."""
    costs = [cost(turned(heaps, place)) for place in range(len(heaps))]
    return min(costs), costs.index(min(costs))
