"""The calls author, clock and track: what holds for the calls behind them."""


def set_author(document, a):
    if not 1 <= a <= 99:
        return [-2]
    document.author = a
    return [0]


def set_time(document, t):
    if t < 0:
        return [-2]
    if t < document.time:
        return [-3]
    document.time = t
    return [0]


def set_tracking(document, on):
    if on not in (0, 1):
        return [-2]
    document.tracking = on == 1
    return [0]
