"""Freshness: which windows of a view a deed touches [164]."""


def untouched(view, lows, deed, rules):
    """Those of the beginnings of some windows of a view whose windows a deed on points or on the clock leaves fresh."""
    step = view.step()
    if deed[0] == "clock":
        return [low for low in lows if _is_told(low, step, deed[1], rules)]
    if not view.means(deed[1]):
        return lows
    start, end = _stretch_of(deed)
    return [low for low in lows if end <= low or low + step <= start]


def _is_told(low, step, clock, rules):
    untold_from = rules.untold_from(low, step)
    return untold_from is None or clock < untold_from


def _stretch_of(deed):
    """From which time on and ahead of which time a put or a take does something."""
    if deed[0] == "put":
        return deed[2], deed[2] + 1
    return deed[2], deed[3]
