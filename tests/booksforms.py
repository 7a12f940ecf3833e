"""Books that the tests share, and a plain reckoning of the numbers of their trees."""

import random

B = (1, ((0, 1, ()), (0, 3, (0, 0))))
C = (2, ((0, 0, (1, 1)), (1, 2, ()), (1, 3, (1,))))
TOO_GREAT = (3, ((0, 3, (1, 2)), (1, 0, ()), (2, 0, ())))

KNOWN_BOOKS = [
    B, C, (1, ()), (2, ()), (3, ()), (1, ((0, 0, ()),)), (1, ((0, 6, ()),)), (1, ((0, 0, (0,)),)),
    (1, ((0, 0, (0, 0)),)), (1, ((0, 6, ()), (0, 6, (0, 0)))), (1, ((0, 0, ()), (0, 6, (0,)))),
    (1, ((0, 0, ()), (0, 0, (0,)), (0, 0, (0, 0)))), (1, ((0, 0, (0, 0)), (0, 1, ()))),
    (1, ((0, 0, ()), (0, 5, ()), (0, 6, (0, 0)))), (1, ((0, 0, (0, 0)), (0, 3, ()), (0, 5, ()))),
    (2, ((0, 1, ()), (0, 1, (1,)), (1, 1, (1,)))), (2, ((0, 0, (1,)), (1, 0, (0,)))),
    (2, ((0, 6, (1, 1)), (1, 5, (1, 1)), (1, 6, ()))), (2, ((0, 0, ()), (0, 5, (1,)), (1, 6, (0,)))),
    (2, ((0, 0, (0, 1)), (0, 1, ()), (1, 0, ()), (1, 6, ()))), (2, ((1, 3, ()),)),
    (2, ((0, 6, ()), (0, 6, (0, 1)), (1, 6, ()), (1, 6, (1, 1)))),
    (3, ((0, 2, (1, 2)), (1, 2, ()), (1, 2, (1, 2)), (2, 1, (0, 0)), (2, 2, ()))),
    (3, ((0, 2, (1, 1)), (1, 2, (2, 2)), (2, 2, ()), (2, 2, (0, 0)))),
    (3, ((0, 0, ()), (0, 6, (1,)), (1, 6, (2,)), (2, 5, (0,)))),
    (3, ((0, 0, (1,)), (0, 0, (2,)), (1, 0, ()), (1, 5, (1,)), (2, 1, ()), (2, 6, (2,)))),
    (3, ((0, 5, (0,)), (0, 6, (1,)), (1, 4, (1,)), (1, 6, (2,)), (2, 0, ()), (2, 6, (2,)))),
    (3, ((0, 0, ()), (0, 0, (1, 2)), (1, 0, ()), (1, 2, ()), (2, 0, (0, 0)), (2, 1, (1,)))),
    (3, ((0, 0, (1, 2)), (1, 1, ()), (2, 2, (2,)))), (3, ((0, 1, ()), (1, 1, ()), (2, 1, (0, 1)))),
    (3, tuple(sorted((k % 3, k % 3, ((k + 1) % 3,) * (k // 3 % 2)) for k in range(6)))),
]


def most_letters(book):
    return max([0] + [letters for _, letters, _ in book[1]])


def with_two(book):
    return any(len(names) == 2 for _, _, names in book[1])


def size_of(book):
    """The lengths H and T that point [C2] tells."""
    many, most = book[0], most_letters(book)
    if with_two(book):
        return (most * (2 ** (many * many) - 1) + (most * many * 2 ** many) ** 2 + 1,
                {1: 1 + 2 * most, 2: 1 + 8 * most, 3: 1 + 64 * most * most}[many])
    return (most * many * many + (most * many) ** 2 + 1,
            {1: 1 + most, 2: 1 + 2 * most, 3: 1 + 4 * most * most}[many])


def is_too_great(book):
    return book[0] == 3 and with_two(book) and most_letters(book) > 2


def random_book(picker, many, most, with_twos, rules):
    found = set()
    for _ in range(rules):
        size = picker.choice((0, 1, 1, 2, 2) if with_twos else (0, 1, 1))
        names = tuple(sorted(picker.randrange(many) for _ in range(size)))
        found.add((picker.randrange(many), picker.randint(0, most), names))
    return many, tuple(sorted(found))


def random_books(seed, times):
    picker = random.Random(seed)
    books = []
    for k in range(times):
        many = k % 3 + 1
        with_twos = picker.random() < 0.7
        most = picker.randint(0, 2 if many == 3 and with_twos else 6)
        books.append(random_book(picker, many, most, with_twos, picker.randint(1, 10)))
    return books


def plain_made(book, limit):
    """For each name the set of its numbers below limit, by trees of more and more rules."""
    many, rules = book
    made = [set() for _ in range(many)]
    fresh = True
    while fresh:
        fresh = False
        for name, letters, names in rules:
            sums = {letters}
            for part in names:
                sums = {n + more for n in sums for more in made[part] if n + more < limit}
            sums = {n for n in sums if n < limit} - made[name]
            if sums:
                made[name] |= sums
                fresh = True
    return made


def plain_signs(book, limit):
    """For each name the signs of the numbers below limit, by trees of more and more rules."""
    many, rules = book
    made = [0] * many
    ahead = None
    while made != ahead:
        ahead = list(made)
        for name, letters, names in rules:
            sums = 1 << letters
            for part in names:
                found = 0
                for number in range(made[part].bit_length()):
                    if made[part] >> number & 1:
                        found |= sums << number
                sums = found
            made[name] |= sums & ((1 << limit) - 1)
    return ["".join("1" if bits >> n & 1 else "0" for n in range(limit)) for bits in made]


def plain_uses_hold(book, name, number, value):
    """Whether value is uses that hold, condition by condition."""
    many, rules = book
    if type(value) is not tuple or len(value) != len(rules):
        return False
    if not all(type(used) is int and used >= 0 for used in value):
        return False
    if sum(used * letters for used, (_, letters, _) in zip(value, rules)) != number:
        return False
    for one in range(many):
        rewritten = sum(used for used, (top, _, _) in zip(value, rules) if top == one)
        stands = sum(used * names.count(one) for used, (_, _, names) in zip(value, rules))
        if rewritten != stands + (1 if one == name else 0):
            return False
    come_to = {name}
    for _ in range(many):
        come_to |= {part for used, (top, _, names) in zip(value, rules)
                    if used and top in come_to for part in names}
    return all(top in come_to for used, (top, _, _) in zip(value, rules) if used)
