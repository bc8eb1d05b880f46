"""Far beats: powers of square tables, their walks, and how entries go on for any number of steps."""

from math import lcm

from ridgespans.bounds import MAX_BEAT
from ridgespans.errors import TooGreat
from ridgespans.quotients import fraction_of
from ridgespans.rows import are_indices, ask_square, greatest, greatest_sum, integers_of, is_above, led, shifted
from ridgespans.rows import unit_side
from ridgespans.spans import integer_places


def power(table, n):
    """Return the power n of the table."""
    ask_square(table)
    parts = parts_of(table, n)
    found = parts[0]
    for part in parts[1:]:
        found = product_of(part, found)
    return found


def entry_at(table, n, line, place):
    """Return what stands in the line at the place of the power n."""
    return led_often(table, unit_side(table[0], place), n)[line]


def led_often(table, side, n):
    """Return the side to which the power n leads the side."""
    ask_square(table)
    for part in parts_of(table, n):
        side = led(part, side)
    return side


def best_walk(table, n, line, place):
    """Return a walk of n steps whose sum is the entry's number, None if this is none."""
    sums = sums_to(table, n, place)
    if sums[n][line] is None:
        return None
    walk = [line]
    for left in range(n, 0, -1):
        walk.append(next_place(table[1][walk[-1]], sums[left - 1], sums[left][walk[-1]]))
    return tuple(walk)


def walk_holds(table, n, line, place, value):
    """Return whether the value is a walk of n steps whose sum is the entry's number."""
    ask_square(table)
    if not are_indices(value, table[0]) or len(value) != n + 1:
        return False
    if value[0] != line or value[-1] != place:
        return False
    numbers = [table[1][one][other] for one, other in zip(value, value[1:])]
    return None not in numbers and sum(numbers) == entry_at(table, n, line, place)


def beat(table, line, place):
    """Return the least start and the least number of steps by which the entry comes round."""
    _, start, each = entry_of(table, line, place)
    return (start, each)


def growth(table, line, place):
    """Return by how much the entry grows a step, from the start on, for each number of steps of a round."""
    entry = entry_of(table, line, place)
    _, start, each = entry
    return tuple([growth_at(entry, n) for n in range(start, start + each)])


def whole_beat(table):
    """Return the least start and the least number of steps by which all entries come round."""
    ask_beat(table)
    starts, whole = [], 1
    for place in range(table[0]):
        for _, start, each in entries_to(table, place):
            starts.append(start)
            # By multiples an entry comes round from the same start on, by other numbers never.
            whole = lcm(whole, each)
    return (max(starts), whole)


def first_at_least(table, line, place, number):
    """Return the least number of steps for which the entry's number is at least the number, None if there is none."""
    entry = entry_of(table, line, place)
    numbers, start, each = entry
    for n in range(start):
        if numbers[n] is not None and numbers[n] >= number:
            return n
    return min(integers_of([first_from(entry, n, number) for n in range(start, start + each)]), default=None)


def lasting(table, one_entry, other_entry):
    """Return the least number of steps from which on the one entry's number is at least the other one's."""
    one, other = entry_of(table, *one_entry), entry_of(table, *other_entry)
    start, each = max(one[1], other[1]), lcm(one[2], other[2])
    lasts = [n for n in range(start) if is_above(number_for(other, n), number_for(one, n))]
    for n in range(start, start + each):
        if fails_on(one, other, n, each):
            return None
        lasts.extend(fails_from(one, other, n, each))
    return max(lasts, default=-1) + 1


def ask_beat(table):
    """Raise NotSquare if the table is not square, TooGreat if an integer of it is too great, or too small."""
    ask_square(table)
    for line in table[1]:
        if any([abs(number) > MAX_BEAT for number in integers_of(line)]):
            raise TooGreat(MAX_BEAT)


def parts_of(table, n):
    """Return some tables that lead as the power n does, one behind the other."""
    turn = turn_of(table[0])
    if n < 4 * turn:
        return [power_by_halves(table, n)]
    # There is a best walk of n steps that does nothing but rounds of one loop from two turns behind
    # its start to two turns ahead of its end. For take the loops that a best walk is made of, and of
    # these the one with the greatest mean, of c steps: some places - 1 loops join all of its places,
    # and of each c others some have a multiple of c steps together, for which rounds of that one may
    # stand. What remains beside the rounds has at most 2 * places * (places - 1) steps, and a turn
    # is a multiple of places and of places - 1. So between, the best way of a turn back to the same
    # place, again and again, is as good.
    whole = power_by_halves(table, turn)
    return [power_by_halves(table, n % turn), whole, gone_round(whole, n // turn - 4), whole, whole]


def power_by_halves(table, n):
    """Return the power n of the table, made of that of half as many steps."""
    if n < 2:
        return table if n == 1 else unit_table(table[0])
    half = power_by_halves(table, n // 2)
    even = product_of(half, half)
    return product_of(even, table) if n % 2 == 1 else even


def gone_round(table, times):
    """Return the table that first goes so many times from each place back to it, then as the table."""
    places, lines = table
    sums = [None if line[place] is None else times * line[place] for place, line in enumerate(lines)]
    return (places, tuple([shifted(line, number) for line, number in zip(lines, sums)]))


def product_of(one, other):
    """Return the table of the greatest sums of a step by the one table and a step by the other one."""
    columns = [tuple([line[place] for line in other[1]]) for place in range(other[0])]
    return (other[0], tuple([tuple([greatest_sum(line, column) for column in columns]) for line in one[1]]))


def turn_of(places):
    """Return the least number of steps that is a multiple of each number of places up to so many."""
    turn = 1
    for each in range(1, places + 1):
        turn = lcm(turn, each)
    return turn


def unit_table(places):
    """Return the power 0 of the tables of so many places."""
    return (places, tuple([unit_side(places, place) for place in range(places)]))


def sums_to(table, n, place):
    """Return for each number of steps up to n the list of the greatest sums to the place, one for each line."""
    ask_square(table)
    sums = [list(unit_side(table[0], place))]
    go_on(sums, table, n)
    return sums


def go_on(sums, table, n):
    """Append the sums of n steps more."""
    ties = ties_of(table)
    for _ in range(n):
        behind = sums[-1]
        sums.append([max([number + behind[end] for end, number in line if behind[end] is not None], default=None)
                     for line in ties])


def ties_of(table):
    """Return for each line the list of the pairs of a place at which it has an integer and this integer."""
    return [[(end, number) for end, number in enumerate(line) if number is not None] for line in table[1]]


def next_place(line, sums, awaited):
    """Return the first place from which the sums go on so that the line comes to what is awaited."""
    for place, number in enumerate(line):
        if number is not None and sums[place] is not None and number + sums[place] == awaited:
            return place
    return None


def entry_of(table, line, place):
    """Return the entry as a triple: its first numbers, its start, and by how many steps it comes round."""
    ask_beat(table)
    return entries_to(table, place)[line]


def entries_to(table, place):
    """Return the list of the entries of all lines at the place."""
    turn = turn_of(table[0])
    far, sums = turn, sums_to(table, 5 * turn, place)
    while not goes_round(table, sums, far, turn):
        go_on(sums, table, far)
        far = 2 * far
    return [entry_with([numbers[line] for numbers in sums], far, turn) for line in range(table[0])]


def goes_round(table, sums, far, turn):
    """Return whether it is sure that from far on all sums come round by this many steps."""
    rises = [rise_of(sums[n], sums[n + turn]) for n in range(far, far + turn + 1)]
    if None in rises or rises[0] != rises[-1]:
        return False
    # Where a sum rises as much as the greatest rise of those it may come from, it comes from one
    # of these that rises so; a turn later all is the same, so this goes on for ever.
    return all([behind == greatest_rises(table, ahead) for ahead, behind in zip(rises, rises[1:])])


def rise_of(one_sums, other_sums):
    """Return by how much the sums rise from the ones to the others, None if some are none there alone."""
    if integer_places(one_sums) != integer_places(other_sums):
        return None
    return [None if one is None else other - one for one, other in zip(one_sums, other_sums)]


def greatest_rises(table, rises):
    """Return for each line the greatest rise of the places at which it has an integer."""
    return [greatest([rises[end] for end, _ in line]) for line in ties_of(table)]


def entry_with(numbers, far, turn):
    """Return the entry with these numbers, which comes round by the turn from far on."""
    each = 1
    # From far on each number of a turn rises evenly, so what holds for two turns holds for ever.
    while not all([comes_round(numbers, n, each) for n in range(far, far + 2 * turn)]):
        each += 1
    start = far
    while start > 0 and comes_round(numbers, start - 1, each):
        start -= 1
    return (numbers, start, each)


def comes_round(numbers, n, each):
    """Return whether at n and twice so many steps on the numbers are none, or grow alike."""
    one, other, last = numbers[n], numbers[n + each], numbers[n + 2 * each]
    if one is None or other is None or last is None:
        return one is None and other is None and last is None
    return last - other == other - one


def number_for(entry, n):
    """Return the entry's number for n steps, however many these are."""
    numbers, start, each = entry
    if n < start:
        return numbers[n]
    rounds, behind = divmod(n - start, each)
    first = numbers[start + behind]
    return None if first is None else first + rounds * (numbers[start + behind + each] - first)


def growth_at(entry, n):
    """Return by how much the entry grows a step from n on, none where it is none."""
    one, other = number_for(entry, n), number_for(entry, n + entry[2])
    return None if one is None else fraction_of(other - one, entry[2])


def first_from(entry, n, number):
    """Return the first one of n and rounds behind it at which the entry's number is at least the number."""
    each = entry[2]
    one, other = number_for(entry, n), number_for(entry, n + each)
    if one is None:
        return None
    if one >= number:
        return n
    return n - (one - number) // (other - one) * each if other > one else None


def fails_on(one, other, n, each):
    """Return whether, from n on by each, the one entry's number is below the other one's again and again."""
    leads = leads_of(one, other, n, each)
    if None in leads:
        return number_for(other, n) is not None
    return leads[1] < leads[0] or (leads[1] == leads[0] and leads[0] < 0)


def fails_from(one, other, n, each):
    """Return, in a list, the last one of n, n + each and so on at which the one entry's number is below the other's."""
    leads = leads_of(one, other, n, each)
    if None in leads or leads[0] >= 0:
        return []
    # After so many rounds nothing is lacking for the first time.
    rounds = -(leads[0] // (leads[1] - leads[0]))
    return [n + (rounds - 1) * each]


def leads_of(one, other, n, each):
    """Return by how much the one entry's number is above the other's for n and n + each, none where one is none."""
    if number_for(one, n) is None or number_for(other, n) is None:
        return [None]
    return [number_for(one, m) - number_for(other, m) for m in (n, n + each)]
