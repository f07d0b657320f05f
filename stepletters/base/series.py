"""Series up to some degree: the list of the numbers of t ** 0, t ** 1 and so on."""


def one_series(most):
    """The series 1 up to t ** `most`."""
    return [1] + [0] * most


def times_less(series, degree):
    """The series times 1 - t ** `degree`."""
    return [number - (series[at - degree] if at >= degree else 0) for at, number in enumerate(series)]


def over_less(series, degree):
    """The series divided by 1 - t ** `degree`, for a degree above 0."""
    found = list(series)
    for at in range(degree, len(found)):
        found[at] = found[at] + found[at - degree]
    return found
