"""Roads from template to template, and what stands against a template; facts is what tells facts by ask(key)."""

from pagemaker.limits import MOST_FILLINGS
from pagemaker.templates import all_pieces, calls_of


def calls_from(facts, name):
    """The list of the calls of the template that is called so, none where it isn't there."""
    template = facts.ask(("template", name))
    return [] if template is None else calls_of(template)


def names_from(facts, name):
    """The list of the name and of all names that are called from it on, round by round, each once."""
    names = [name]
    at = 0
    while at < len(names):
        for word, other in calls_from(facts, names[at]):
            if other not in names:
                names.append(other)
        at += 1
    return names


def roads_from(facts, name):
    """Of each name to which a road leads the shortest road, of several the first as lists rise."""
    road_to = {name: [name]}
    names = [name]
    at = 0
    # Names stand here in the order of their roads, so the first road to a name is the one that's told.
    while at < len(names):
        road = road_to[names[at]]
        for other in sorted({called for word, called in calls_from(facts, names[at])}):
            if other not in road_to:
                road_to[other] = road + [other]
                names.append(other)
        at += 1
    return road_to


def first_road(roads):
    """The shortest of the roads, of several the first as lists rise; None of none."""
    return min(roads, key=lambda road: (len(road), road), default=None)


def road_to_none(facts, name):
    """The road to a name that isn't there, None where there's none."""
    road_to = roads_from(facts, name)
    return first_road([road_to[other] for other in road_to if facts.ask(("template", other)) is None])


def road_back(facts, name):
    """The road from the name back to it, None where there's none."""
    road_to = roads_from(facts, name)
    callers = [other for other in road_to if name in [called for word, called in calls_from(facts, other)]]
    return first_road([road_to[caller] + [name] for caller in callers])


def road_to_ring(facts, name):
    """The road whose last name stands in it ahead, None where there's none."""
    road_to = roads_from(facts, name)
    # Up to where it stands ahead such a road is as short as can be, and so is the way round from there.
    backs = [(other, road_back(facts, other)) for other in road_to]
    return first_road([road_to[other] + back[1:] for other, back in backs if back is not None])


def has_depth(facts, name):
    """Whether the template that is called so has a pages or a body, within when too."""
    pieces = all_pieces(facts.ask(("template", name))[1])
    return any([piece[0] == "pages" or piece == ("field", "body") for piece in pieces])


def road_too_deep(facts, name):
    """The road by way of a pages to a template that has a pages or a body, None where there's none."""
    road_to = roads_from(facts, name)
    roads = []
    for caller in road_to:
        for word, listed in calls_from(facts, caller):
            if word == "pages":
                behind = roads_from(facts, listed)
                roads.extend([road_to[caller] + behind[end] for end in behind if has_depth(facts, end)])
    return first_road(roads)


def fillings(facts, name, known):
    """How many fillings the template comes to; known keeps those of each name, as many roads may lead to one."""
    if name not in known:
        known[name] = 1 + sum([fillings(facts, other, known) for word, other in calls_from(facts, name)])
    return known[name]


def standing_against(facts, name):
    """What stands against the name, None where nothing does."""
    road = road_to_none(facts, name)
    if road is not None:
        return ("none", road)
    road = road_to_ring(facts, name)
    if road is not None:
        return ("ring", road)
    # From here on all that is called is there, and no road comes back.
    road = road_too_deep(facts, name)
    if road is not None:
        return ("deep", road)
    many = fillings(facts, name, {})
    return ("much", many) if many > MOST_FILLINGS else None


def against_text(word, what):
    """What stands against a template as a text; what is a road or a number."""
    words = [str(what)] if word == "much" else what
    return " ".join([word] + words)
