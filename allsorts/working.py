"""What a TERM comes to, and whether an ATOM holds, once it is told what the TERMS straight in it come to.

Names, calls and props are left to the model.
"""

from allsorts.ratios import is_below, product_of, sum_of

MOST_BITS = 15


def side_by_side(one, other):
    """Of two sets a list of (FRACTION, whether the first has it, whether the second has it), rising."""
    rows = []
    first = 0
    second = 0
    while first < len(one) or second < len(other):
        if second == len(other) or (first < len(one) and is_below(one[first], other[second])):
            rows.append((one[first], True, False))
            first += 1
        elif first == len(one) or is_below(other[second], one[first]):
            rows.append((other[second], False, True))
            second += 1
        else:
            rows.append((one[first], True, True))
            first += 1
            second += 1
    return rows


def worth_of_set(word, worths):
    """What a term of "set" of that word comes to."""
    if word == "none":
        return ()
    if word == "one":
        return (worths[0],)
    rows = side_by_side(worths[0], worths[1])
    if word == "both":
        return tuple([item for item, here, there in rows if here and there])
    if word == "without":
        return tuple([item for item, _, there in rows if not there])
    return tuple([item for item, _, _ in rows])


def worth_of_bits(word, worths):
    """What a term of "bits" of that word comes to."""
    if word == "band":
        return worths[0] & worths[1]
    if word == "bor":
        return worths[0] | worths[1]
    if word == "bnot":
        return MOST_BITS - worths[0]
    return (worths[0] + worths[1]) & MOST_BITS


def worth_of(term, worths):
    """What a term that is no name and no call comes to."""
    word = term[0]
    if word == "number":
        return (term[1], 1)
    if word == "plus":
        return sum_of(worths[0], worths[1])
    if word == "times":
        return product_of((term[1], 1), worths[0])
    if word in ("tip", "node"):
        return (word,) + tuple(worths)
    if word == "bits":
        return term[1]
    if word in ("band", "bor", "bnot", "badd"):
        return worth_of_bits(word, worths)
    return worth_of_set(word, worths)


def atom_holds(atom, worths):
    """Whether an atom that is no prop holds."""
    if atom[0] == "same":
        return worths[0] == worths[1]
    if atom[0] == "most":
        return not is_below(worths[1], worths[0])
    if atom[0] == "in":
        return worths[0] in worths[1]
    return worths[0] >> atom[1] & 1 == 1
