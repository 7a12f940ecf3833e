"""Books of rules over one letter, and the numbers of the trees of their names."""

from leastmakers.common import check_size, has_bit, is_pair, is_triple, is_whole, row_of
from leastmakers.tables import least

_MOST_NAMES = 3
_MOST_RULES = 10
_MOST_LETTERS = 6
# More than the rules of any smallest tree with a number for which it is asked.
_NO_TREE = 10 ** 12


def book_error(value):
    """The first word or pair (place, word) that tells why value is no book; None for a book."""
    if not is_pair(value):
        return "form"
    many, rules = value
    if not is_whole(many, 1, _MOST_NAMES):
        return "many"
    if not isinstance(rules, tuple) or len(rules) > _MOST_RULES:
        return "rules"
    for place, rule in enumerate(rules):
        if not _is_rule(many, rule):
            return place, "rule"
        if place > 0 and rule <= rules[place - 1]:
            return place, "order"
    return None


def _is_rule(many, value):
    if not is_triple(value):
        return False
    name, letters, parts = value
    if not is_whole(name, 0, many - 1) or not is_whole(letters, 0, _MOST_LETTERS):
        return False
    if not isinstance(parts, tuple) or len(parts) > 2:
        return False
    return all([is_whole(part, 0, many - 1) for part in parts]) and list(parts) == sorted(parts)


def derived(book):
    """The tables of the numbers that the names make."""
    head, turn = book_size(book)
    rows = _made_rows(book, head + 2 * turn)
    return tuple([_table_within(row, head, turn) for row in rows])


def book_size(book):
    """The lengths of heads and turns with which all names come round; TooGreat if too long."""
    many, rules = book
    most = max([0] + [letters for name, letters, parts in rules])
    if any([len(parts) == 2 for name, letters, parts in rules]):
        head = most * ((1 << (many * many)) - 1) + (most * many * (1 << many)) ** 2 + 1
        factors = (2, 8, 64 * most)
    else:
        head = most * many * many + (most * many) ** 2 + 1
        factors = (1, 2, 4 * most)
    turn = 1 + most * factors[many - 1]
    check_size(head, turn)
    return head, turn


def _made_rows(book, many):
    """For each name the signs of the first so many numbers."""
    rows = [0] * book[0]
    # The same bits from behind: with them one shift tells all sums to a number at once.
    backs = [0] * book[0]
    for number in range(many):
        name = _next_maker(book[1], (rows, backs, many), number)
        while name is not None:
            rows[name] = rows[name] | (1 << number)
            backs[name] = backs[name] | (1 << (many - number))
            name = _next_maker(book[1], (rows, backs, many), number)
    return [row_of(row, many) for row in rows]


def _next_maker(rules, found, number):
    """A name that is not found yet to make the number, but does by what is found; or None."""
    for name, letters, parts in rules:
        if letters <= number and not has_bit(found[0][name], number):
            if _adds_up(parts, found, number - letters):
                return name
    return None


def _adds_up(parts, found, number):
    """Whether numbers that are found for the parts come to the number."""
    rows, backs, many = found
    if len(parts) == 0:
        return number == 0
    if len(parts) == 1:
        return has_bit(rows[parts[0]], number)
    return rows[parts[0]] & (backs[parts[1]] >> (many - number)) != 0


def _table_within(row, head, turn):
    """The least table of the row, which comes round with no more signs than told.

    Two turns of which neither is longer than half of the signs behind the head are the same.
    """
    behind = row[head:]
    size = 1
    while size < turn and behind[size:] != behind[:len(behind) - size]:
        size += 1
    return least((row[:head], behind[:size]))


def least_made(book):
    """The least numbers that the names make, None for a name that makes none."""
    many, rules = book
    found = [None] * many
    # A tree with the least number need not have a name within itself.
    for _ in range(many):
        for name, letters, parts in rules:
            numbers = [found[part] for part in parts]
            if None not in numbers:
                number = letters + sum(numbers)
                if found[name] is None or number < found[name]:
                    found[name] = number
    return tuple(found)


def idle(book):
    """The places of the rules that stand in no tree of name 0, ascending."""
    rules = book[1]
    makes = least_made(book)
    standing = {}
    names = [0]
    while names:
        name = names.pop()
        for place, rule in enumerate(rules):
            if rule[0] == name and place not in standing and _stands(rule, makes):
                standing[place] = True
                names.extend(rule[2])
    return tuple([place for place in range(len(rules)) if place not in standing])


def _stands(rule, makes):
    """Whether there is a tree with the rule at its top."""
    return all([makes[part] is not None for part in rule[2]])


def without(book, places):
    """The book without the rules at these places."""
    many, rules = book
    return many, tuple([rule for place, rule in enumerate(rules) if place not in places])


def fewest_rules(book, name, number):
    """Of how many rules the smallest tree of the name with this number is; None if none is."""
    many, rules = book
    rows = [[_NO_TREE] * (number + 1) for _ in range(many)]
    for reached in range(number + 1):
        while _improves(rules, rows, reached):
            pass
    size = rows[name][number]
    return size if size < _NO_TREE else None


def _improves(rules, rows, number):
    """Set smaller trees with the number, by one more rule; whether there are any."""
    improved = False
    for name, letters, parts in rules:
        if letters <= number:
            size = 1 + _least_size(parts, rows, number - letters)
            if size < rows[name][number]:
                rows[name][number] = size
                improved = True
    return improved


def _least_size(parts, rows, number):
    """The fewest rules of trees of the parts whose numbers come to the number."""
    if len(parts) == 0:
        return 0 if number == 0 else _NO_TREE
    if len(parts) == 1:
        return rows[parts[0]][number]
    left = rows[parts[0]][:number + 1]
    right = rows[parts[1]][number::-1]
    return min([one + other for one, other in zip(left, right)])
