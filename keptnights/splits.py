"""Splits: a sum of cents divided by weights, without losing a cent."""

from keptnights.checks import is_row, is_whole


def counted_weights(weights):
    """The weights; if all are 0 they count as 1."""
    return list(weights) if sum(weights) > 0 else [1] * len(weights)


def floors_of(total, weights):
    """The whole cents of the exact shares, for weights that are not all 0."""
    whole = sum(weights)
    return [total * weight // whole for weight in weights]


def rests_of(total, weights):
    """What the exact shares have beyond their whole cents, in parts of the sum of the weights."""
    whole = sum(weights)
    return [(total * weight) % whole for weight in weights]


def split_cents(total, weights):
    """The parts of a sum: whole cents of the shares, and the cents left over to the greatest rests."""
    if total < 0:
        return tuple([-part for part in split_cents(-total, weights)])
    shares = counted_weights(weights)
    parts = floors_of(total, shares)
    order = sorted([(-rest, index) for index, rest in enumerate(rests_of(total, shares))])
    for _, index in order[:total - sum(parts)]:
        parts[index] += 1
    return tuple(parts)


def even_split(total, many):
    """A sum divided into so many equal parts, as far as whole cents allow."""
    return split_cents(total, [1] * many)


def is_split(total, weights, parts):
    """Whether any value has parts that add up to the total, each less than a cent away from its share."""
    if not is_row(parts, len(weights)) or not all([is_whole(part) for part in parts]):
        return False
    shares = counted_weights(weights)
    whole = sum(shares)
    near = [abs(part * whole - total * share) < whole for part, share in zip(parts, shares)]
    return sum(parts) == total and all(near)


def greatest_rest_first(total, weights, parts):
    """Whether no part above the whole cents of its share has a smaller rest than one that is not."""
    shares = counted_weights(weights)
    rests = rests_of(total, shares)
    raised = [part > floor for part, floor in zip(parts, floors_of(total, shares))]
    above = [rest for rest, more in zip(rests, raised) if more]
    others = [rest for rest, more in zip(rests, raised) if not more]
    return len(above) == 0 or len(others) == 0 or min(above) >= max(others)
