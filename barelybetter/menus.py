"""Menus: what somebody chose of some things at once, and what this says of their worths."""

from barelybetter.books import known_book
from barelybetter.ends import sure_answers
from barelybetter.errors import NoWorths
from barelybetter.kinds import are_names, contrary, is_pair, pair_of
from barelybetter.layers import first_codes, greatest_rows
from barelybetter.rings import is_possible, is_ring, ring_of


def is_menu(thing):
    """Return whether any value is a menu."""
    if not isinstance(thing, tuple) or len(thing) != 2:
        return False
    things, chosen = thing
    if not _are_ascending_names(things) or not _are_ascending_names(chosen):
        return False
    return len(chosen) > 0 and all([name in things for name in chosen])


def choose(scale, things):
    """Return those of some things of a Scale than which none of them is better, ascending."""
    return [x for x in sorted(things) if not any([scale.is_better(y, x) for y in things])]


def menu_answers(menu, leader):
    """Return the answers that say that a menu is fit with this leader, ascending."""
    things, chosen = menu
    below = [(y, x, False) for y in things for x in chosen if y != x]
    return sorted(below + [(leader, z, True) for z in things if z not in chosen])


def leaders_of(things, menus):
    """Return all lists of one leader of each menu, with which some worths fit, ascending."""
    return [leaders for leaders, _ in _led(sorted(things), menus)]


def fit_menus(things, menus):
    """Return whether some worths fit all menus."""
    return len(_led(sorted(things), menus)) > 0


def menus_surely(things, menus):
    """Return the Book of the answers that are so for all worths that fit all menus."""
    ascending, counts = sorted(things), {}
    # Other leaders may have the same codes.
    led = {_key_of(codes): codes for _, codes in _led(ascending, menus)}
    if len(led) == 0:
        raise NoWorths()
    for key in led:
        for answer in sure_answers(ascending, greatest_rows(led[key])):
            counts[answer] = counts.get(answer, 0) + 1
    return known_book(ascending, [answer for answer in sorted(counts) if counts[answer] == len(led)])


def menu_tree(things, menus):
    """Return a tree that shows that no worths fit all menus, or None."""
    if fit_menus(things, menus):
        return None
    return _tree_behind(sorted(things), menus, [])


def is_menu_tree(things, menus, thing):
    """Return whether any value is a menu tree of the menus, with the leaders of none of them picked."""
    return _is_tree_behind(sorted(things), menus, [], thing)


def _led(things, menus):
    """Return all lists of leaders with which some worths fit, ascending: tuples (leaders, codes of their answers)."""
    found, known = [([], first_codes(things, []))], {}
    for menu in menus:
        own = [(leader, first_codes(things, menu_answers(menu, leader))) for leader in menu[1]]
        longer = [(leaders + [leader], _greater_of(codes, more)) for leaders, codes in found for leader, more in own]
        found = [(leaders, codes) for leaders, codes in longer if _are_possible(codes, known)]
    return found


def _are_possible(codes, known):
    """Return whether the answers of some codes are possible; it is known for codes that were asked about before."""
    key = _key_of(codes)
    if key not in known:
        # Two answers that contradict each other lead round, too.
        known[key] = greatest_rows(codes) is not None
    return known[key]


def _key_of(codes):
    """Return a key that tells codes."""
    return tuple([code for row in codes for code in row])


def _greater_of(codes, others):
    """Return the rows of the greater ones of two codes each."""
    return [[max(one, other) for one, other in zip(row, more)] for row, more in zip(codes, others)]


def _tree_behind(things, menus, answers):
    """Return a tree of the menus that are left, behind the answers of the leaders that were picked."""
    clash = _clash_of(answers)
    if clash is not None:
        return ("clash", clash)
    book = _book_of(things, answers)
    if not is_possible(book):
        return ("ring", ring_of(book))
    trees = [_tree_behind(things, menus[1:], answers + menu_answers(menus[0], leader)) for leader in menus[0][1]]
    return ("lead", trees)


def _is_tree_behind(things, menus, answers, thing):
    """Return whether any value is a tree of the menus that are left, behind the answers of the leaders picked."""
    if not isinstance(thing, tuple) or len(thing) != 2 or not isinstance(thing[0], str):
        return False
    word, part = thing
    if word == "clash":
        return is_pair(part) and (part[0], part[1], True) in answers and (part[0], part[1], False) in answers
    if word == "ring":
        return _clash_of(answers) is None and is_ring(_book_of(things, answers), part)
    if word != "lead" or len(menus) == 0 or not isinstance(part, list) or len(part) != len(menus[0][1]):
        return False
    return all([_is_tree_behind(things, menus[1:], answers + menu_answers(menus[0], leader), tree)
                for leader, tree in zip(menus[0][1], part)])


def _clash_of(answers):
    """Return the least pair about which answers contradict each other, or None."""
    told = {answer: True for answer in answers}
    return min([pair_of(answer) for answer in answers if contrary(answer) in told], default=None)


def _book_of(things, answers):
    """Return the Book of answers that contradict each other nowhere."""
    return known_book(things, sorted(set(answers)))


def _are_ascending_names(thing):
    """Return whether any value is a tuple of different names, ascending."""
    return isinstance(thing, tuple) and are_names(thing) and list(thing) == sorted(thing)
