"""Talks and values for the tests, and slow second opinions that share no code with the package."""

from itertools import permutations, product
from random import Random


def s(letter):
    return ("send", letter)


def g(letter):
    return ("get", letter)


def rows_of(text):
    """Rows from a short form: "s0 g1 / g0 s1"."""
    words = {"s": "send", "g": "get"}
    return [[(words[item[0]], int(item[1:])) for item in row.split()] for row in text.split("/")]


def ring_rows(many):
    """Rows of so many hands and letters whose only crowns go round through all letters."""
    return [[s(letter), g((letter + 1) % many)] for letter in range(many)]


def crossing_rows(half):
    """Two hands that each send half of the letters before they get the others."""
    first, second = range(half), range(half, 2 * half)
    return [[s(k) for k in first] + [g(k) for k in second], [s(k) for k in second] + [g(k) for k in first]]


def random_rows(seed, hands, many):
    """Rows of some talk: the doings of random letters in a random order that can be done."""
    source = Random(seed)
    pairs = [source.sample(range(hands), 2) for letter in range(many)]
    order = [letter for letter in range(many) for turn in range(2)]
    source.shuffle(order)
    rows = [[] for hand in range(hands)]
    sent = set()
    for letter in order:
        word = "get" if letter in sent else "send"
        rows[pairs[letter][word == "get"]].append((word, letter))
        sent.add(letter)
    return rows


def near_upright_rows(seed, hands, many):
    """Rows of a talk with few letters under way, so that many of these are upright."""
    source = Random(seed)
    rows = [[] for hand in range(hands)]
    late = []
    for letter in range(many):
        one, other = source.sample(range(hands), 2)
        rows[one].append(s(letter))
        late.append((other, letter))
        if source.random() < 0.8:
            for hand, got in late:
                rows[hand].append(g(got))
            late = []
    for hand, got in late:
        rows[hand].append(g(got))
    return rows


def many_rows():
    """Rows of some hundred talks of every size."""
    found = [random_rows(seed, 2 + seed % 5, seed % 13) for seed in range(260)]
    found += [near_upright_rows(seed, 2 + seed % 5, seed % 13) for seed in range(260)]
    found += [ring_rows(many) for many in range(2, 7)]
    return found + [crossing_rows(half) for half in range(1, 7)]


def small_rows():
    """All orders of the rows of talks with two or three letters among two or three hands."""
    found = []
    for hands, many in ((2, 2), (2, 3), (3, 2), (3, 3)):
        for pairs in product(permutations(range(hands), 2), repeat=many):
            # With other hands for letter 0 the talks are the same but for the order of the rows.
            if pairs[0] == (0, 1):
                found += product(*[permutations(row) for row in drawn_rows(hands, pairs)])
    return found


def drawn_rows(hands, pairs):
    """Rows in which each letter is got before the next one is sent."""
    rows = [[] for hand in range(hands)]
    for letter, (one, other) in enumerate(pairs):
        rows[one].append(s(letter))
        rows[other].append(g(letter))
    return rows


def ahead_pairs(rows):
    """All pairs (one, other) of doings of which one is ahead, by the words of point 10."""
    found = set()
    doings = [doing for row in rows for doing in row]
    for row in rows:
        found |= {(row[k], row[n]) for n in range(len(row)) for k in range(n)}
    found |= {(s(letter), g(letter)) for word, letter in doings if word == "send"}
    for middle in doings:
        ins = [one for one in doings if (one, middle) in found]
        outs = [other for other in doings if (middle, other) in found]
        found |= {(one, other) for one in ins for other in outs}
    return found


def is_turning(rows):
    """Whether some doing would be ahead of itself."""
    return any(one == other for one, other in ahead_pairs(rows))


def fitting_small_rows():
    """Those of the small rows that make talks."""
    return [rows for rows in small_rows() if not is_turning(rows)]


def are_moments(rows, told):
    """Whether a tuple of integers is moments, by the words of point 11."""
    lines = [[told[letter] for word, letter in row] for row in rows]
    return all(line[k] < line[k + 1] for line in lines for k in range(len(line) - 1))


def are_least(rows, told):
    """Whether moments are the least ones: each later one has the moment just below next to it in front."""
    fronts = {letter: [] for letter in range(len(told))}
    for row in rows:
        for one, other in zip(row, row[1:]):
            fronts[other[1]].append(told[one[1]])
    return all(moment == 0 or moment - 1 in fronts[letter] for letter, moment in enumerate(told))


def is_crown(rows, told):
    """Whether a tuple of letters is a crown, by the words of point 12."""
    ahead = ahead_pairs(rows)
    turned = told[1:] + told[:1]
    return len(told) > 1 and len(set(told)) == len(told) and all(
        (s(one), g(other)) in ahead for one, other in zip(told, turned))


def least_crown_size(rows):
    """How many letters the smallest crown has, or None: by the walks of each length, as a table of steps."""
    many = sum(len(row) for row in rows) // 2
    ahead = ahead_pairs(rows)
    step = [[one != other and (s(one), g(other)) in ahead for other in range(many)] for one in range(many)]
    walk = step
    for size in range(2, many + 1):
        walk = [[any(walk[a][b] and step[b][c] for b in range(many)) for c in range(many)] for a in range(many)]
        if any(walk[a][a] for a in range(many)):
            return size
    return None


def odd_values():
    """Values of many kinds that are no list, tuple, doing, paper, or small integer."""
    return [None, True, False, -1, 13, 10 ** 999, -10 ** 999, "", "send", "0", b"", b"send", {}, {0: 1}, {0},
            set(), frozenset(), object(), int, len, range(2), ValueError(), iter(()), NotImplemented]
