"""Giving each of several seekers an option of its own."""


def matched(options):
    """Return a dict that gives each key of options one of its options, none of them twice.

    options is a dict of lists. Returns None if there are not enough options.
    """
    holders = {}
    for seeker in options:
        if not _find_option(seeker, options, holders, {}):
            return None
    return {holders[option]: option for option in holders}


def _find_option(seeker, options, holders, tried):
    """Give the seeker an option, moving holders to other options of theirs where this is needed."""
    for option in options[seeker]:
        if option not in tried:
            tried[option] = True
            if option not in holders or _find_option(holders[option], options, holders, tried):
                holders[option] = seeker
                return True
    return False
