"""The limits of one column.

Except in is_limit and one_form, a limit is in its one form: a limit of numbers is a tuple
(least, greatest), where greatest may be None; a limit of words is a tuple of "in" or "not"
and then different words in ascending order. Limits of the same values are then equal,
unless they allow no number: there are many pairs of crossed bounds.
"""

from surestreams.columns import is_number, is_word

LETTERS = "abcdefghijklmnopqrstuvwxyz"


def is_range(value):
    """Returns whether any value is a tuple of two bounds."""
    if not isinstance(value, tuple) or len(value) != 2:
        return False
    return all([bound is None or is_number(bound) for bound in value])


def is_choice(value):
    """Returns whether any value is a tuple of "in" or "not" and then words."""
    if not isinstance(value, tuple) or not all([is_word(word) for word in value]):
        return False
    return value[:1] == ("in",) or value[:1] == ("not",)


def is_limit(kind, value):
    """Returns whether any value is a limit, in any form, of a column of this kind."""
    if kind == "number":
        return is_number(value) or is_range(value)
    return is_word(value) or is_choice(value)


def one_form(kind, value):
    """Returns the one form of a limit in any form."""
    if not isinstance(value, tuple):
        return (value, value) if kind == "number" else ("in", value)
    if kind == "word":
        return value[:1] + tuple(sorted(set(value[1:])))
    least, greatest = value
    return (0 if least is None else least, greatest)


def everything(kind):
    """Returns the limit that allows all values of a column of this kind."""
    return (0, None) if kind == "number" else ("not",)


def is_everything(limit):
    """Returns whether a limit allows all values."""
    return limit in ((0, None), ("not",))


def is_of_words(limit):
    """Returns whether a limit is one of words."""
    return isinstance(limit[0], str)


def is_void(limit):
    """Returns whether a limit allows no value."""
    if is_of_words(limit):
        return limit == ("in",)
    least, greatest = limit
    return greatest is not None and greatest < least


def allows(limit, value):
    """Returns whether a limit allows a value of its kind."""
    if is_of_words(limit):
        return (value in limit[1:]) == (limit[0] == "in")
    least, greatest = limit
    return least <= value and (greatest is None or value <= greatest)


def common(one, other):
    """Returns a limit of the values that both limits allow."""
    if is_of_words(one):
        return common_words(one, other)
    ends = [end for end in (one[1], other[1]) if end is not None]
    return (max(one[0], other[0]), min(ends, default=None))


def common_words(one, other):
    """Returns the limit of the words that both limits of words allow."""
    if one[0] == "not" and other[0] == "not":
        return ("not",) + tuple(sorted(set(one[1:]) | set(other[1:])))
    if one[0] == "not":
        return ("in",) + tuple(sorted(set(other[1:]) - set(one[1:])))
    if other[0] == "not":
        return ("in",) + tuple(sorted(set(one[1:]) - set(other[1:])))
    return ("in",) + tuple(sorted(set(one[1:]) & set(other[1:])))


def opposite(limit):
    """Returns the limit of the words that a limit of words does not allow."""
    return ("not" if limit[0] == "in" else "in",) + limit[1:]


def other_values(limit):
    """Returns limits of different values: together, of all values that a limit does not allow."""
    if is_of_words(limit):
        return [opposite(limit)]
    if is_void(limit):
        return [everything("number")]
    least, greatest = limit
    above = [] if greatest is None else [(greatest + 1, None)]
    return [(0, least - 1)] + above if least > 0 else above


def outside(one, other):
    """Returns limits of different values, none of them void: together, of what only one allows."""
    parts = [common(one, part) for part in other_values(other)]
    return [part for part in parts if not is_void(part)]


def is_within(one, other):
    """Returns whether a limit that is not void allows only values that another limit allows."""
    if one == other:
        return True
    if is_of_words(one):
        return are_words_within(one, other)
    least, greatest = other
    if one[0] < least:
        return False
    return greatest is None or one[1] is not None and one[1] <= greatest


def are_words_within(one, other):
    """Returns whether a limit of words that is not void allows only words that another one allows."""
    if one[0] == "not":
        return other[0] == "not" and is_void(common_words(one, opposite(other)))
    for word in one[1:]:
        if not allows(other, word):
            return False
    return True


def meet(one, other):
    """Returns whether there is a value that two limits allow that are not void."""
    if is_of_words(one):
        return meet_in_words(one, other)
    return (one[1] is None or other[0] <= one[1]) and (other[1] is None or one[0] <= other[1])


def meet_in_words(one, other):
    """Returns whether there is a word that two limits of words allow that are not void."""
    if one[0] == "not" and other[0] == "not":
        return True
    few, many = (one, other) if one[0] == "in" and (other[0] == "not" or len(one) <= len(other)) else (other, one)
    # To look for a word in a tuple is quick for a few words only.
    if len(few) > 8:
        return not is_void(common_words(few, many))
    for word in few[1:]:
        if allows(many, word):
            return True
    return False


def united(one, other):
    """Returns the limit of the values of two limits that are not void, or None if there is none."""
    if is_of_words(one):
        return opposite(common(opposite(one), opposite(other)))
    low, high = (one, other) if one[0] <= other[0] else (other, one)
    if low[1] is None:
        return low
    # There is no number between two ranges that lie side by side, so they are one range.
    if low[1] + 1 < high[0]:
        return None
    return (low[0], None if high[1] is None else max(low[1], high[1]))


def beginning(limit):
    """Returns the least number that a limit allows; limits of words may stand in any order."""
    return 0 if is_of_words(limit) else limit[0]


def all_united(limits):
    """Returns limits, as few as can be, of the values of some limits of a kind that are not void."""
    found = []
    for limit in sorted(limits, key=beginning):
        both = united(found[-1], limit) if found else None
        if both is None:
            found.append(limit)
        else:
            found[-1] = both
    return found


def left_over(limit, values):
    """Returns limits of different values, none of them void: what a limit allows but some of its values."""
    if is_of_words(limit):
        rest = common(limit, ("not",) + tuple(sorted(set(values))))
        return [] if is_void(rest) else [rest]
    found = []
    rest = limit
    for value in sorted(set(values)):
        found.append((rest[0], value - 1))
        rest = (value + 1, rest[1])
    return [part for part in found + [rest] if not is_void(part)]


def only(limit):
    """Returns the only value that a limit allows, or None if it does not allow just one."""
    if is_of_words(limit):
        return limit[1] if limit[0] == "in" and len(limit) == 2 else None
    return limit[0] if limit[0] == limit[1] else None


def size(limit):
    """Returns the number of values that a limit allows, or None if it is infinite."""
    if is_void(limit):
        return 0
    if is_of_words(limit):
        return len(limit) - 1 if limit[0] == "in" else None
    least, greatest = limit
    return None if greatest is None else greatest - least + 1


def word_at(index):
    """Returns the word with this index in the list a .. z, aa, ab .. zz, aaa .. ."""
    text = LETTERS[index % 26]
    rest = index // 26
    while rest > 0:
        text = LETTERS[(rest - 1) % 26] + text
        rest = (rest - 1) // 26
    return text


def some_value(limit):
    """Returns a value that a limit allows that is not void."""
    if limit[0] == "in":
        return limit[1]
    if limit[0] != "not":
        return limit[0]
    taken = set(limit[1:])
    index = 0
    while word_at(index) in taken:
        index += 1
    return word_at(index)
