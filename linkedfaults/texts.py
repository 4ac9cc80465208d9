"""Systems and worlds as texts."""

from linkedfaults.errors import BadText
from linkedfaults.fraction import above, lowest, plus
from linkedfaults.kinds import is_name, set_of, share_of
from linkedfaults.systems import System
from linkedfaults.worlds import World


def written(number):
    """A fraction as it is written."""
    return f"{number[0]}" if number[1] == 1 else f"{number[0]}/{number[1]}"


def system_lines(system):
    """The lines of a system."""
    faults = [f"fault {name} {written(system[name])}" for name in system]
    return ["system", *faults, *[f"link {one} {other}" for one, other in system.links()]]


def world_lines(world):
    """The lines of a world."""
    cases = [" ".join([written(world[some]), *some]) for some in world]
    return [" ".join(["world", *world.names()]), *cases]


def write(thing):
    """The text of a system or a world."""
    return "\n".join(system_lines(thing) if isinstance(thing, System) else world_lines(thing))


def is_figures(word):
    """Whether a word consists of figures."""
    return word.isascii() and word.isdigit()


def share_in(word):
    """The share that a word is written for, or None."""
    top, stroke, bottom = word.partition("/")
    if stroke == "":
        bottom = "1"
    if not is_figures(top) or not is_figures(bottom) or int(bottom) == 0:
        return None
    number = lowest(int(top), int(bottom))
    # A word that is not written like this is none, such as one with a leading zero or not in lowest terms.
    return share_of(number) if written(number) == word else None


def fault_in(words):
    """The pair (name, share) that the words of a line tell of a fault, or None."""
    if len(words) != 3 or words[0] != "fault" or not is_name(words[1]):
        return None
    share = share_in(words[2])
    return None if share is None else (words[1], share)


def link_in(words, faults):
    """The ascending pair of faults that the words of a line tell of a link, or None."""
    if len(words) != 3 or words[0] != "link" or words[1] not in faults or words[2] not in faults:
        return None
    return (words[1], words[2]) if words[1] < words[2] else None


def goes_behind(thing, told):
    """Whether a thing stands behind all of an ascending list."""
    return not told or told[-1] < thing


def case_in(words, names):
    """The pair (set, share above 0) that the words of a line tell of a world with these names, or None."""
    share, some = share_in(words[0]), tuple(words[1:])
    if share is None or share[0] == 0 or set_of(some, names) != some:
        return None
    return (some, share)


def read_system(lines):
    """The system that has these lines; BadText."""
    shares, links = {}, []
    for at, line in enumerate(lines[1:], start=2):
        words = line.split(" ")
        fault, link = fault_in(words), link_in(words, list(shares))
        if fault is not None and not links and goes_behind(fault[0], list(shares)):
            shares[fault[0]] = fault[1]
        elif link is not None and goes_behind(link, links):
            links.append(link)
        else:
            raise BadText(at)
    return System(shares, links)


def read_world(names, lines):
    """The world of these ascending names that has these lines; BadText."""
    outcomes, total, order = {}, (0, 1), []
    for at, line in enumerate(lines[1:], start=2):
        case = case_in(line.split(" "), names)
        if case is None or not goes_behind((len(case[0]), case[0]), order):
            raise BadText(at)
        some, share = case
        outcomes[some] = share
        order.append((len(some), some))
        total = plus(total, share)
        # Behind the set of all names no set is left that could bring the sum to 1.
        if above(total, (1, 1)) or (len(some) == len(names) and total != (1, 1)):
            raise BadText(at)
    if total != (1, 1):
        raise BadText(len(lines) + 1)
    return World(names, outcomes)


def read(text):
    """The system or the world that has a text; BadText with the first line up to which no text begins."""
    lines = text.split("\n")
    words = lines[0].split(" ")
    if words == ["system"]:
        return read_system(lines)
    names = words[1:]
    if words[0] != "world" or not all([is_name(name) for name in names]) or sorted(set(names)) != names:
        raise BadText(1)
    return read_world(names, lines)
