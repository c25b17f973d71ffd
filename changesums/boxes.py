"""Small ledgers, with keys in a span and amounts up to a greatest one: which of them have given sums.

The ledgers of a box are counted without going through them one by one: the keys
are parted into a first and a second half, and only the choices of the amounts at
the keys of one half are gone through. The place of a ledger in the box is its
index among all ledgers of the box in their order.
"""

from changesums.amounts import only_ledger
from changesums.errors import InvalidAmount, InvalidIndex, OutOfSpan
from changesums.integers import check_key, check_number, check_width, is_from, raised
from changesums.ledgers import check_ledger, summed
from changesums.sums import check_sums, first_powers, first_sums, multiplied_sums

WIDEST = 8


def check_most(value):
    """Raise InvalidAmount for any value that is not an integer from 0 on."""
    if not is_from(value, 0):
        raise InvalidAmount()


def check_box(low, width, most):
    """Check the arguments that give a box, in this order."""
    check_key(low)
    check_width(width, 1)
    check_most(most)


def every_choice(steps):
    """Return the list of the sums of one number of each of the lists, ordered by the choices."""
    totals = [0]
    for row in steps:
        totals = [total + step for total in totals for step in row]
    return totals


def packed(sums, bound):
    """Return one integer for sums of which no absolute value is above a bound; other ones have other integers."""
    bits = (2 * bound).bit_length()
    result = 0
    for number in sums[::-1]:
        result = (result << bits) + number
    return result


def packed_choices(keys, number, most, bound):
    """Return the list of the packed sums of all choices of amounts at the keys."""
    weights = [packed(first_powers(key, number), bound) for key in keys]
    return every_choice([[amount * weight for amount in range(-most, most + 1)] for weight in weights])


def halved(sums, low, width, most):
    """Return the tuple (firsts, seconds, target) of a box.

    The ledger of a choice i of the first half and a choice j of the second half has
    the sums if firsts[i] + seconds[j] is the target, and then its place is
    i * len(seconds) + j. firsts is empty if the sums are too great for the box.
    """
    if len(sums) > width:
        # So many sums belong to at most one ledger of the span; a part of them tells it, too.
        if only_ledger(sums, tuple(range(low, low + width))) is None:
            return [], [], 0
        sums = sums[:width]
    number = len(sums)
    wanted = multiplied_sums(sums, first_powers(-low, number))
    bound = most * raised(width, number)
    if max([abs(total) for total in wanted]) > bound:
        return [], [], 0
    firsts = packed_choices(list(range(width // 2)), number, most, bound)
    seconds = packed_choices(list(range(width // 2, width)), number, most, bound)
    return firsts, seconds, packed(wanted, bound)


def how_often(totals):
    """Return the dict that tells how often each total is among the totals."""
    table = {}
    for total in totals:
        table[total] = table.get(total, 0) + 1
    return table


def count_of(sums, low, width, most):
    """Return the number of the ledgers in a box that have checked sums."""
    firsts, seconds, target = halved(sums, low, width, most)
    table = how_often(seconds)
    return sum([table.get(target - total, 0) for total in firsts])


def ledger_at(place, low, width, most):
    """Return the ledger of a box by its place: the amounts plus most are the digits of the place."""
    base = 2 * most + 1
    pairs = []
    for key in range(low + width - 1, low - 1, -1):
        pairs.append((key, place % base - most))
        place = place // base
    return tuple([(key, amount) for key, amount in pairs[::-1] if amount != 0])


def count_in_box(sums, *, low, width, most):
    """Return the number of the ledgers in the box that have the sums."""
    check_sums(sums)
    check_box(low, width, most)
    return count_of(sums, low, width, most)


def in_box(sums, *, low, width, most):
    """Give the ledgers in the box that have the sums, in their order."""
    check_sums(sums)
    check_box(low, width, most)
    firsts, seconds, target = halved(sums, low, width, most)
    table = {}
    for j, total in enumerate(seconds):
        table.setdefault(total, []).append(j)
    for i, total in enumerate(firsts):
        for j in table.get(target - total, []):
            yield ledger_at(i * len(seconds) + j, low, width, most)


def nth_in_box(sums, index, *, low, width, most):
    """Return the ledger with an index among those in the box that have the sums."""
    check_sums(sums)
    check_box(low, width, most)
    if not is_from(index, 0):
        raise InvalidIndex()
    firsts, seconds, target = halved(sums, low, width, most)
    table = how_often(seconds)
    before = 0
    for i, total in enumerate(firsts):
        many = table.get(target - total, 0)
        if index < before + many:
            choices = [j for j, other in enumerate(seconds) if other == target - total]
            return ledger_at(i * len(seconds) + choices[index - before], low, width, most)
        before = before + many
    raise InvalidIndex()


def weights_of_choices(size, most):
    """Return the list of the weights of all choices of amounts at so many keys."""
    return every_choice([[abs(amount) for amount in range(-most, most + 1)]] * size)


def lightest_choices(totals, weights):
    """Return the dict that gives for each total the tuple (weight, index) of its first lightest choice."""
    table = {}
    for j, total in enumerate(totals):
        if total not in table or weights[j] < table[total][0]:
            table[total] = (weights[j], j)
    return table


def lightest_of(halves, low, width, most):
    """Return the first one of the lightest ledgers that halves, as halved returns them, give, or None."""
    firsts, seconds, target = halves
    table = lightest_choices(seconds, weights_of_choices(width - width // 2, most))
    found = []
    for i, (total, weight) in enumerate(zip(firsts, weights_of_choices(width // 2, most))):
        rest = table.get(target - total)
        if rest is not None:
            found.append((weight + rest[0], i * len(seconds) + rest[1]))
    return ledger_at(min(found)[1], low, width, most) if found else None


def lightest_in_box(sums, *, low, width, most):
    """Return the first one of the ledgers of the least weight in the box that have the sums, or None."""
    check_sums(sums)
    check_box(low, width, most)
    return lightest_of(halved(sums, low, width, most), low, width, most)


def lightest_blind(number, width, most):
    """Return the first one of the lightest ledgers but () in the box with low 0 whose first sums are 0, or None.

    Such a ledger may be moved and scaled by -1. So the first one of the lightest ones
    has an amount below 0 at the key 0, and other choices of the first half are left out.
    """
    if number >= width:
        return None
    firsts, seconds, target = halved((0,) * number, 0, width, most)
    below = len(firsts) // (2 * most + 1) * most
    return lightest_of((firsts[:below], seconds, target), 0, width, most)


def twins(number, *, width, most):
    """Return the first pair of unlike ledgers in the box with low 0 with the same first sums, or None."""
    check_number(number, 1)
    check_width(width, 1)
    check_most(most)
    apart = lightest_blind(number, width, 2 * most)
    if apart is None:
        return None
    table = dict(apart)
    amounts = [table.get(key, 0) for key in range(width)]
    # Each amount of the first ledger is the least one with which both ledgers are in the box.
    pairs = [(key, max(-most, amount - most)) for key, amount in enumerate(amounts)]
    rests = [(key, amount - table.get(key, 0)) for key, amount in pairs]
    return summed(pairs), summed(rests)


def safe_width(number, *, most):
    """Return the greatest width from 1 to WIDEST without twins."""
    check_number(number, 1)
    check_most(most)
    width = 1
    while width < WIDEST and lightest_blind(number, width + 1, 2 * most) is None:
        width = width + 1
    return width


def needed_in_box(ledger, *, low, width, most):
    """Return the least number of sums that no other ledger in the box has, for a ledger in the box."""
    check_ledger(ledger)
    check_box(low, width, most)
    if any([not low <= key < low + width or abs(amount) > most for key, amount in ledger]):
        raise OutOfSpan()
    sums = first_sums(ledger, width)
    fewest, enough = 1, width
    while fewest < enough:
        middle = (fewest + enough) // 2
        if count_of(sums[:middle], low, width, most) == 1:
            enough = middle
        else:
            fewest = middle + 1
    return enough
