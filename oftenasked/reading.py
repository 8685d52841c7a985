"""Programs: whether a text is one, how it is printed, what it is answered (promise 15)."""

from oftenasked.again import bears, window_of
from oftenasked.lots import can_answer
from oftenasked.papers import answers_again
from oftenasked.programs import read_program, service_of, window_told
from oftenasked.services import answers


def check(text):
    """Raise what is wrong first in any value that is no program."""
    read_program(text)


def stand_line(asks, name, parts):
    """The line of a stand, its parts in the order of the asks."""
    ordered = sorted([(asks.index(ask), f"{ask} > {after} {answer}") for ask, after, answer in parts])
    return f"stand {name} = " + ", ".join([told for _, told in ordered]) + ";"


def ask_line(key, told):
    """The line of what is asked behind the stands."""
    return " ".join(["ask", key] + list(told)) + ";"


def printed(text):
    """The program with one statement a line, all parted by one blank, but none ahead of commas and semicolons."""
    asks, stands, wishes = read_program(text)
    lines = [f"asks {asks};"]
    lines += [stand_line(asks, name, parts) for name, parts in stands]
    lines += [ask_line(key, told) for key, told in wishes]
    return "\n".join(lines)


def reply(service, key, told):
    """The answer to what is asked behind the stands."""
    if key == "answers":
        return answers(service, told[0])
    if key == "window":
        return window_of(service, told[0])
    window = window_told(told[1])
    if key == "bears":
        return bears(service, told[0], window)
    if key == "again":
        return answers_again(service, told[0], window)
    return can_answer(service, told[0], window, told[2])


def run(text):
    """The tuple of the answers to all that a program asks."""
    asks, stands, wishes = read_program(text)
    service = service_of(asks, stands)
    return tuple([reply(service, key, told) for key, told in wishes])
