"""The text of a machine, and the machine of a text."""

from anyvalues.errors import BadText
from anyvalues.machines import check_machine
from anyvalues.words import condition_of, number_of, source_of, source_word

MOST_IN_HEAD = 60

# A line of a case has at least: at STANDING on TAG if CONDITION keep say go NEXT
LEAST_WORDS = 10


def write_condition(condition):
    """The written condition."""
    word = condition[0]
    if word in ("true", "false"):
        return word
    if word == "not":
        return f"not({write_condition(condition[1])})"
    if word in ("all", "any"):
        pieces = [write_condition(part) for part in condition[1]]
    else:
        pieces = [source_word(place) for place in condition[1:]]
    inner = ",".join(pieces)
    return f"{word}({inner})"


def write_machine(machine):
    """The text of a right machine."""
    tags, registers, steps = machine
    lines = [f"machine {tags} {registers}\n"]
    for number, standing in enumerate(steps):
        before = len(lines)
        for tag, cases in enumerate(standing):
            for case in cases:
                lines.append(_case_line(number, tag, case))
        if len(lines) == before:
            lines.append(f"at {number}\n")
    return "".join(lines)


def _case_line(standing, tag, case):
    condition, moves, says, following = case
    words = ["at", str(standing), "on", str(tag), "if", write_condition(condition), "keep"]
    words.extend([source_word(source) for source in moves])
    words.append("say")
    for told, source in says:
        words.append(str(told))
        words.append(source_word(source))
    words.append("go")
    words.append(str(following))
    return " ".join(words) + "\n"


def read_machine(text):
    """The right machine of the text; raises BadText or InvalidMachine."""
    lines = text.split("\n")
    unended = lines.pop()
    if not lines:
        raise BadText(1)
    tags, registers = _read_head(lines[0])
    standings = []
    for at, words in enumerate(lines[1:]):
        _read_line(standings, words.split(" "), tags, at + 2)
    if unended or not standings:
        raise BadText(len(lines) + 1)
    steps = tuple([_cases_by_tag(cases, tags) for cases in standings])
    machine = (tags, registers, steps)
    check_machine(machine)
    return machine


def _read_head(line):
    words = line.split(" ")
    if len(words) != 3 or words[0] != "machine":
        raise BadText(1)
    tags = number_of(words[1], 1)
    registers = number_of(words[2], 1)
    if tags > MOST_IN_HEAD or registers > MOST_IN_HEAD:
        raise BadText(1)
    return tags, registers


def _read_line(standings, words, tags, line):
    """Puts what a line tells behind the lists of cases for the standings so far; a case has its tag in front."""
    if len(words) < 2 or words[0] != "at":
        raise BadText(line)
    standing = number_of(words[1], line)
    fresh = standing == len(standings)
    if len(words) == 2:
        if not fresh:
            raise BadText(line)
        standings.append([])
        return
    tag, case = _read_case(words, line)
    if tag >= tags:
        raise BadText(line)
    if fresh:
        standings.append([(tag, case)])
        return
    if standing != len(standings) - 1:
        raise BadText(line)
    # A standing without cases so far has a line of its own, beside which there is no other one.
    cases = standings[standing]
    if not cases or tag < cases[-1][0]:
        raise BadText(line)
    cases.append((tag, case))


def _read_case(words, line):
    """The tag and the case of a line."""
    if len(words) < LEAST_WORDS:
        raise BadText(line)
    if (words[2], words[4], words[6], words[-2]) != ("on", "if", "keep", "go"):
        raise BadText(line)
    tag = number_of(words[3], line)
    condition = condition_of(words[5], line)
    middle = words[7:-2]
    if "say" not in middle:
        raise BadText(line)
    cut = middle.index("say")
    moves = tuple([source_of(word, line) for word in middle[:cut]])
    says = _read_says(middle[cut + 1:], line)
    return tag, (condition, moves, says, number_of(words[-1], line))


def _read_says(words, line):
    if len(words) % 2 == 1:
        raise BadText(line)
    return tuple([
        (number_of(words[at], line), source_of(words[at + 1], line))
        for at in range(0, len(words), 2)
    ])


def _cases_by_tag(cases, tags):
    """For each tag the tuple of its cases."""
    return tuple([
        tuple([case for told, case in cases if told == tag])
        for tag in range(tags)
    ])
