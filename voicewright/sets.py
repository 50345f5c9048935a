"""Sets: lots of the twelve but for moving and turning over, their least forms, and what intervals they hold."""

from itertools import combinations

from voicewright.chords import has_all
from voicewright.errors import BadSize
from voicewright.notes import class_of


def check_set(classes):
    """Return classes, each once, in order; BadSize for one that isn't below twelve."""
    found = tuple(sorted(set(classes)))
    if any(not 0 <= one < 12 for one in found):
        raise BadSize("a class is from nought on and below twelve")
    return found


def moved_set(classes, steps):
    """Return classes so many half steps up."""
    return tuple(sorted([class_of(one + steps) for one in check_set(classes)]))


def turned_set(classes, about):
    """Return classes turned over: each taken from about."""
    return tuple(sorted([class_of(about - one) for one in check_set(classes)]))


def forms_by_way(classes):
    """Return the moved forms by their steps, then the turned ones by their abouts."""
    return [moved_set(classes, steps) for steps in range(12)] + [turned_set(classes, about) for about in range(12)]


def least_form(classes):
    """Return the least of all moved and turned forms, by order, a tuple."""
    return min(forms_by_way(classes))


def is_same_kind(one, other):
    """Tell whether lots are one but for moving and turning over."""
    return least_form(one) == least_form(other)


def all_forms(classes):
    """Return all moved and turned forms, each once, in order."""
    return tuple(sorted(set(forms_by_way(classes))))


def intervals(classes):
    """Return how many pairs are one to six half steps apart, the nearer way."""
    found = check_set(classes)
    sizes = [min(high - low, 12 - high + low) for low in found for high in found if low < high]
    return tuple([sizes.count(steps) for steps in range(1, 7)])


def others(classes):
    """Return the classes that aren't there."""
    found = check_set(classes)
    return tuple([one for one in range(12) if one not in found])


def shared_moved(classes, steps):
    """Return how many classes are there and there again when moved."""
    there = moved_set(classes, steps)
    return len([one for one in check_set(classes) if one in there])


def stays(classes):
    """Return (steps by which a lot moves onto itself, abouts by which it turns onto itself), in order."""
    found = check_set(classes)
    return (tuple([steps for steps in range(12) if moved_set(found, steps) == found]),
            tuple([about for about in range(12) if turned_set(found, about) == found]))


def lots(many):
    """Return all least forms of so many classes, in order; BadSize out of nought to twelve."""
    if not 0 <= many <= 12:
        raise BadSize("a lot has nought to twelve classes")
    return tuple([lot for lot in combinations(range(12), many) if least_form(lot) == lot])


def within_kind(one, other):
    """Tell whether a lot, moved or turned, lies within another."""
    there = check_set(other)
    return any(has_all(there, lot) for lot in all_forms(one))


def twins(one, other):
    """Tell whether lots hold the same intervals and are not one kind."""
    return intervals(one) == intervals(other) and not is_same_kind(one, other)
