"""Slow second opinions on breaks, cuts, runs and rooms, by the words of points 14 and 40 to 42, and great talks."""

from itertools import permutations, product

from tests.samples import ahead_pairs, crossing_rows, g, near_upright_rows, random_rows, s


def hands_of(rows, wanted):
    """For each letter the hand whose row has its sending, or its getting."""
    return {letter: hand for hand, row in enumerate(rows) for word, letter in row if word == wanted}


def all_breaks(rows):
    """All breaks, ascending."""
    ahead = ahead_pairs(rows)
    getters = hands_of(rows, "get")
    return sorted((one, other) for one, other in permutations(getters, 2)
                  if getters[one] == getters[other] and (s(one), s(other)) in ahead and (g(other), g(one)) in ahead)


def single_breaks(rows):
    """The breaks whose letters are sent by the same hand, ascending."""
    senders = hands_of(rows, "send")
    return [(one, other) for one, other in all_breaks(rows) if senders[one] == senders[other]]


def done_at(rows, cut):
    """The doings that are done at a cut."""
    return {doing for row, count in zip(rows, cut) for doing in row[:count]}


def all_cuts(rows):
    """All cuts, ascending."""
    found = []
    for cut in product(*[range(len(row) + 1) for row in rows]):
        done = done_at(rows, cut)
        if all(s(letter) in done for word, letter in done if word == "get"):
            found.append(cut)
    return sorted(found)


def is_in_order(rows, told):
    """Whether a tuple of all doings is a run."""
    at = {doing: place for place, doing in enumerate(told)}
    rising = all(at[one] < at[other] for row in rows for one, other in zip(row, row[1:]))
    return rising and all(at[s(letter)] < at[doing] for doing in told for word, letter in [doing] if word == "get")


def runs_among_permutations(rows):
    """All runs, ascending, chosen from all orders of all doings: for three letters and fewer."""
    doings = [doing for row in rows for doing in row]
    return sorted(told for told in permutations(doings) if is_in_order(rows, told))


def interleaved(rows):
    """All tuples of all doings in which those of each row come in their order."""
    if not any(rows):
        return [()]
    return [(row[0], *rest) for hand, row in enumerate(rows) if row
            for rest in interleaved([other[1:] if hand == k else other for k, other in enumerate(rows)])]


def all_runs(rows):
    """All runs, ascending."""
    return sorted(told for told in interleaved(rows) if is_in_order(rows, told))


def count_orders(rows):
    """How many runs there are: the orders of all doings in which each comes behind those that are ahead of it."""
    doings = [doing for row in rows for doing in row]
    ahead = ahead_pairs(rows)
    fronts = [sum(1 << k for k, one in enumerate(doings) if (one, other) in ahead) for other in doings]
    layer = {0: 1}
    for turn in doings:
        later = {}
        for done, many in layer.items():
            for k, front in enumerate(fronts):
                if not done >> k & 1 and front & ~done == 0:
                    later[done | 1 << k] = later.get(done | 1 << k, 0) + many
        layer = later
    return sum(layer.values())


def room_count(run):
    """How many letters are under way at most in a run."""
    behind = [run[:size] for size in range(len(run) + 1)]
    return max(len([letter for word, letter in told if word == "send" and g(letter) not in told]) for told in behind)


def rooms_by_layers(rows):
    """The fewest rooms of a run: the least number with which all doings can be done, turn by turn."""
    doings = [doing for row in rows for doing in row]
    ahead = ahead_pairs(rows)
    fronts = {other: {one for one in doings if (one, other) in ahead} for other in doings}
    for most in range(len(doings) // 2 + 1):
        layer = {frozenset()}
        for turn in doings:
            later = {done | {doing} for done in layer for doing in doings
                     if doing not in done and fronts[doing] <= done}
            layer = {done for done in later if sum(1 if word == "send" else -1 for word, letter in done) <= most}
        if layer:
            return most
    return None


def one_way_rows(many):
    """Two hands, of which one sends all letters."""
    return [[s(k) for k in range(many)], [g(k) for k in range(many)]]


def three_pairs_rows():
    """Six hands in three pairs, in each of which one sends four letters to the other."""
    rows = []
    for first in (0, 4, 8):
        rows += [[s(k) for k in range(first, first + 4)], [g(k) for k in range(first, first + 4)]]
    return rows


def wheel_rows():
    """Six hands that each send two letters to the next one before they get two."""
    return [[s(2 * k), s(2 * k + 1), g((2 * k + 2) % 12), g((2 * k + 3) % 12)] for k in range(6)]


def crossed_break_rows():
    """Twelve letters from five hands to the sixth one, got the other way round."""
    rows = [[] for hand in range(5)]
    for letter in range(12):
        rows[letter % 5].append(s(letter))
    return rows + [[g(11 - k) for k in range(12)]]


def ringed_rows(size):
    """Six hands whose twelve letters are got one behind another, but for a ring of so many in their middle."""
    rows = [[] for hand in range(6)]
    first = (12 - size) // 2
    for letter in range(12):
        if letter == first:
            for hand in range(size):
                rows[hand] += [s(first + hand), g(first + (hand + 1) % size)]
        if not first <= letter < first + size:
            rows[5 * letter % 6].append(s(letter))
            rows[(5 * letter + 2) % 6].append(g(letter))
    return rows


def middle_rows():
    """Rows of talks with four letters."""
    return [random_rows(seed, 2 + seed % 3, 4) for seed in range(24)]


def great_rows():
    """Rows of talks with six hands and twelve letters."""
    found = [three_pairs_rows(), wheel_rows(), crossed_break_rows()] + [ringed_rows(size) for size in range(2, 7)]
    found += [random_rows(seed, 6, 12) for seed in range(1000, 1030)]
    return found + [near_upright_rows(seed, 6, 12) for seed in range(1000, 1030)]


def two_hand_rows():
    """Rows of talks with two hands and up to twelve letters."""
    found = [one_way_rows(12), crossing_rows(6), [[s(k) for k in range(12)], [g(11 - k) for k in range(12)]]]
    return found + [random_rows(seed, 2, 2 + seed % 11) for seed in range(2000, 2060)]
