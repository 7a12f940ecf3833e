"""Papers that show which numbers a name of a book makes, and which it does not."""

from heapq import heappop, heappush

from leastmakers.books import book_size, derived
from leastmakers.bounds import MAX_TURN
from leastmakers.common import bits_of, has_bit, is_number, least_multiple
from leastmakers.tables import has, signs, table_error


def uses(book, name, number):
    """Uses of the rules that hold for the name and the number; None if there are none."""
    book_size(book)
    many, rules = book
    most = max([0] + [letters for _, letters, parts in rules])
    # A tree with a greater number has a name of which there are rounds above 0.
    if number <= most * ((1 << many) - 1):
        return _small_uses(book, name, number)
    for held in range(many):
        lap = _least_lap(book, held)
        found = None if lap is None else _great_uses(book, (name, number), held, lap)
        if found is not None:
            return found
    return None


def _small_uses(book, name, number):
    """The uses of a tree with the number, which is not great; None if there is none."""
    def mark_of(rule, marks):
        total = rule[1] + sum(marks)
        return total if total <= number else None

    tree = _least_trees(book, [], mark_of)[name].get(number)
    return None if tree is None else tree[3]


def _least_lap(book, held):
    """The tree that is the round of this name with the least number above 0; None if none is."""
    def mark_of(rule, marks):
        leaves = sum([mark[0] for mark in marks])
        more = rule[1] + sum([mark[1] for mark in marks])
        return None if leaves > 1 else (leaves, min(1, more))

    leaf = (0, held, (1, 0), (0,) * len(book[1]))
    return _least_trees(book, [leaf], mark_of)[held].get((1, 1))


def _great_uses(book, goal, held, lap):
    """The uses of a tree for the goal with the held name in it, and of its round; or None."""
    name, number = goal
    turn = lap[0]

    def mark_of(rule, marks):
        holds = rule[0] == held or (1 in [mark[0] for mark in marks])
        return (1 if holds else 0), (rule[1] + sum([mark[1] for mark in marks])) % turn

    tree = _least_trees(book, [], mark_of)[name].get((1, number % turn))
    if tree is None or tree[0] > number:
        return None
    times = (number - tree[0]) // turn
    return tuple([one + times * more for one, more in zip(tree[3], lap[3])])


def _least_trees(book, leaves, mark_of):
    """For each name a dict that has for each mark the tree with the least number.

    A tree is a tuple (number, name, mark, uses of the rules). What mark_of(rule, marks) tells
    is the mark of a tree of the rule and of trees with these marks, None if it is not wanted.
    """
    many, rules = book
    kept = [{} for _ in range(many)]
    queue = list(leaves)
    offered = {}
    for place, rule in enumerate(rules):
        if len(rule[2]) == 0:
            _offer(queue, offered, _top(rules, place, (), mark_of), ())
    # No tree is of a less number than those in it: so what comes first here is the least.
    while queue:
        tree = heappop(queue)
        if tree[2] not in kept[tree[1]]:
            kept[tree[1]][tree[2]] = tree
            for place, rule in enumerate(rules):
                for parts in _parts_with(tree, rule[2], kept):
                    _offer(queue, offered, _top(rules, place, parts, mark_of), parts)
    return kept


def _parts_with(tree, names, kept):
    """All lots of trees that are kept for these names, with this one among them."""
    if tree[1] not in names:
        return []
    if len(names) == 1:
        return [(tree,)]
    other = names[0] if names[1] == tree[1] else names[1]
    return [(tree, beside) for beside in kept[other].values()]


def _top(rules, place, parts, mark_of):
    """The number, name, mark and uses of one rule with trees below it, but for their uses."""
    name, letters, _ = rules[place]
    mark = mark_of(rules[place], [part[2] for part in parts])
    uses_of_rule = (0,) * place + (1,) + (0,) * (len(rules) - place - 1)
    return letters + sum([part[0] for part in parts]), name, mark, uses_of_rule


def _offer(queue, offered, top, parts):
    """Put the tree of the top and the parts into the queue if it is wanted and better."""
    number, name, mark, used = top
    if mark is None or number >= offered.get((name, mark), number + 1):
        return
    offered[(name, mark)] = number
    for part in parts:
        used = tuple([one + other for one, other in zip(used, part[3])])
    heappush(queue, (number, name, mark, used))


def uses_hold(book, name, number, value):
    """Whether value is uses of the rules that hold for the name and the number."""
    rules = book[1]
    if not isinstance(value, tuple) or len(value) != len(rules):
        return False
    if not all([is_number(used) for used in value]):
        return False
    if sum([used * rule[1] for used, rule in zip(value, rules)]) != number:
        return False
    return _is_balanced(book, name, value) and _is_joined(rules, name, value)


def _is_balanced(book, name, value):
    """Whether each name is rewritten as often as it stands, the asked one once more."""
    left = [0] * book[0]
    left[name] = 1
    for used, rule in zip(value, book[1]):
        left[rule[0]] -= used
        for part in rule[2]:
            left[part] += used
    return all([many == 0 for many in left])


def _is_joined(rules, name, value):
    """Whether names of used rules lead from this name to each name that has a used rule."""
    used = [rule for many, rule in zip(value, rules) if many > 0]
    reached = {name: True}
    names = [name]
    while names:
        ahead = names.pop()
        for rule in used:
            for part in rule[2]:
                if rule[0] == ahead and part not in reached:
                    reached[part] = True
                    names.append(part)
    return all([rule[0] in reached for rule in used])


def is_closed(book, value):
    """Whether value is a closed row of the book."""
    if not isinstance(value, tuple) or len(value) != book[0]:
        return False
    if not all([table_error(table) is None for table in value]):
        return False
    turn = least_multiple([len(table[1]) for table in value])
    if turn > MAX_TURN:
        return False
    # Told numbers behind it are as those a turn less, and so are their sums.
    many = max([len(table[0]) for table in value]) + turn
    return all([_is_kept(rule, value, many) for rule in book[1]])


def _is_kept(rule, tables, many):
    """Whether all sums of the rule, of told numbers below many, are told for its name."""
    name, letters, parts = rule
    bits = 1 << letters
    size = letters + 1
    for part in parts:
        bits = _sums_of_bits(bits_of(signs(tables[part], many)), bits)
        size += many
    return bits & (bits_of(signs(tables[name], size)) ^ ((1 << size) - 1)) == 0


def _sums_of_bits(one, other):
    """The bits of all sums of a number of one and a number of the other."""
    sums = 0
    for number in range(one.bit_length()):
        if has_bit(one, number):
            sums = sums | (other << number)
    return sums


def bar(book, name, number):
    """A closed row whose table of the name does not tell the number; None if it is made."""
    row = derived(book)
    return None if has(row[name], number) else row


def bars(book, name, number, value):
    """Whether value is a closed row whose table of the name does not tell the number."""
    return is_closed(book, value) and not has(value[name], number)
