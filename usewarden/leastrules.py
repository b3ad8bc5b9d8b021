"""The least rule of a rule: one for all rules that the same rows break."""


def ways_by(numbers, ways):
    """Tell the ways with the rooms numbered otherwise."""
    return [None if way is None else numbers[way] for way in ways]


def finer_kinds(rooms, kinds):
    """Tell the kinds of the rooms anew, apart also where a word leads to unlike kinds or breaks in but one."""
    seen = {}
    finer = []
    for at, room in enumerate(rooms):
        mark = (kinds[at], tuple(ways_by(kinds, room)))
        if mark not in seen:
            seen[mark] = len(seen)
        finer.append(seen[mark])
    return finer


def kinds_upto(rooms, most):
    """Tell for each room the number of its kind, or None where there are more kinds than most.

    Of one kind are the rooms from which the same rows break the rule.
    """
    kinds = [0 for room in rooms]
    finer = finer_kinds(rooms, kinds)
    # Kinds are numbered as they are met, so they come out equal as soon as none is parted any more.
    while finer != kinds:
        # Each turn makes more kinds: so, however many rooms there are, there are no more turns than most.
        if max(finer) >= most:
            return None
        kinds = finer
        finer = finer_kinds(rooms, kinds)
    return kinds


def merged_rooms(rooms, kinds):
    """Tell one room for each kind of the rooms, the first one of them for the kind of room 0."""
    merged = []
    for at, room in enumerate(rooms):
        # The first room of a kind speaks for all of it.
        if kinds[at] == len(merged):
            merged.append(ways_by(kinds, room))
    return merged


def rooms_led_to(rooms):
    """Tell the numbers of the rooms to which rows lead from room 0, in the order of their least rows."""
    order = [0]
    met = {0: True}
    at = 0
    while at < len(order):
        room = order[at]
        for way in rooms[room]:
            if way is not None and way not in met:
                met[way] = True
                order.append(way)
        at = at + 1
    return order


def numbered_rooms(rooms):
    """Tell the rooms to which rows lead, numbered in the order of their least rows."""
    order = rooms_led_to(rooms)
    numbers = {}
    for number, room in enumerate(order):
        numbers[room] = number
    return [ways_by(numbers, rooms[room]) for room in order]


def does_something(rooms, place):
    """Tell whether the word at the place leads from some room to another one or breaks there."""
    return any([room[place] != number for number, room in enumerate(rooms)])


def picked(things, places):
    """Tell the things at the places."""
    return [things[place] for place in places]


def least_upto(rule, most):
    """Tell the least rule of the rule, or None where the rooms of the rule are of more kinds than most."""
    kinds = kinds_upto(rule[2], most)
    if kinds is None:
        return None
    words = rule[1]
    rooms = numbered_rooms(merged_rooms(rule[2], kinds))
    places = [place for place in range(len(words)) if does_something(rooms, place)]
    return (rule[0], picked(words, places), [picked(room, places) for room in rooms])


def least_rule(rule):
    """Tell the least rule of the rule."""
    return least_upto(rule, len(rule[2]))
