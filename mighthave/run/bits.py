"""All moments of a lot, each known by a number with a bit for each deed that it has.

Of each hand so many bits are set from its lowest on, and what the hands ahead have counts for more: so these numbers
rise as the moments do, and the number of a join is had by one `|`. Nothing is looked at here before it is used: what
is handed in was found well by who calls.
"""

from mighthave.errors import TooWide


def lengths_of(firsts):
    """How many deeds each hand has."""
    return [len(row) for row in firsts]


def bits_of(moment, lengths):
    """The number of the moment."""
    bits = 0
    for count, length in zip(moment, lengths):
        bits = bits << length | (1 << count) - 1
    return bits


def moments_by_bits(rows, lengths):
    """The moments of these numbers, in order."""
    columns = []
    shift = sum(lengths)
    for length in lengths:
        shift -= length
        mask = (1 << length) - 1
        columns.append([(bits >> shift & mask).bit_length() for bits in rows])
    return tuple(zip(*columns))


def firsts_by_bits(lot):
    """The bits of the deeds that come by each first, and the number of one beneath it, both by the first's number.

    Of firsts of deeds that the least moment hasn't; beneath is the least moment itself, or another first.
    """
    least, firsts = lot
    lengths = lengths_of(firsts)
    start = bits_of(least, lengths)
    adds, beneath = {}, {}
    shift = sum(lengths)
    for row, count in zip(firsts, least):
        shift -= len(row)
        ahead = start
        for place in range(count, len(row) - row.count(None)):
            bits = bits_of(row[place], lengths)
            adds[bits] = adds.get(bits, 0) | 1 << shift + place
            if bits != ahead:
                beneath[bits] = max(ahead, beneath.get(bits, 0))
            ahead = bits
    return adds, beneath


def all_bits(lot, most):
    """The numbers of all moments of the lot, in some order, or a refusal where there are more than most.

    Firsts are gone through rising, so each behind all that are beneath it: to what was found so far all moments with
    it are added, one for each found one that has all that it has but the deeds that come by it. Where these begin is
    kept: what has a first stands nowhere ahead of it.
    """
    adds, beneath = firsts_by_bits(lot)
    start = bits_of(lot[0], lengths_of(lot[1]))
    found = [start]
    begins = {start: 0}
    for bits in sorted(adds):
        rest = bits ^ adds[bits]
        more = [each | bits for each in found[begins[beneath[bits]]:] if each & rest == rest]
        begins[bits] = len(found)
        found.extend(more)
        if len(found) > most:
            raise TooWide(most)
    return found


def all_in(lot, most):
    """All moments of the lot, rising, or a refusal where there are more than most."""
    return moments_by_bits(sorted(all_bits(lot, most)), lengths_of(lot[1]))
