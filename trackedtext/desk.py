"""The desk: takes a list of calls on a new document and gives the answers back."""

from trackedtext.commands import cut, move, paint, put
from trackedtext.document import Document
from trackedtext.marks import change, stretches
from trackedtext.moment import set_author, set_time, set_tracking
from trackedtext.places import from_of, paragraph, size, where
from trackedtext.settling import accept, reject
from trackedtext.tagging import tag
from trackedtext.views import view

AUTHOR = 0
CLOCK = 1
TRACK = 2
PUT = 3
CUT = 4
PAINT = 5
MOVE = 6
TAG = 7
ACCEPT = 8
REJECT = 9
VIEW = 10
CHANGE = 11
SIZE = 12
WHERE = 13
FROM_OF = 14
PARAGRAPH = 15
STRETCHES = 16

# By the call's number, how many whole numbers stand behind it, a row left out.
NUMBERS = {0: 1, 1: 1, 2: 1, 3: 1, 4: 2, 5: 4, 6: 3, 7: 4, 8: 0,
           9: 0, 10: 1, 11: 1, 12: 0, 13: 1, 14: 2, 15: 1, 16: 0}


class UnknownCall(ValueError):
    pass


def answers(calls):
    return answers_on(Document(), calls)


def answers_on(document, calls):
    given = []
    at = 0
    while at < len(calls):
        begin = at + 1
        end = begin + NUMBERS.get(calls[at], 0)
        row_end = end_of_row(calls, at, end)
        answer = answer_to(document, calls[at], calls[begin:end], calls[end + 1:row_end])
        given.append(len(answer))
        given.extend(answer)
        at = row_end
    return given


def end_of_row(calls, at, end):
    # put alone has a row: its signs, behind how many they are.
    if calls[at] == PUT:
        return end + 1 + calls[end]
    return end


def answer_to(document, call, numbers, signs):
    if call == AUTHOR:
        return set_author(document, numbers[0])
    if call == CLOCK:
        return set_time(document, numbers[0])
    if call == TRACK:
        return set_tracking(document, numbers[0])
    if call == PUT:
        return put(document, numbers[0], signs)
    if call == CUT:
        return cut(document, numbers[0], numbers[1])
    if call == PAINT:
        return paint(document, numbers[0], numbers[1], numbers[2], numbers[3])
    if call == MOVE:
        return move(document, numbers[0], numbers[1], numbers[2])
    if call == TAG:
        return tag(document, numbers[0], numbers[1], numbers[2], numbers[3])
    if call == ACCEPT:
        return accept(document)
    if call == REJECT:
        return reject(document)
    return answer_to_question(document, call, numbers)


def answer_to_question(document, call, numbers):
    if call == VIEW:
        return view(document, numbers[0])
    if call == CHANGE:
        return change(document, numbers[0])
    if call == SIZE:
        return size(document)
    if call == WHERE:
        return where(document, numbers[0])
    if call == FROM_OF:
        return from_of(document, numbers[0], numbers[1])
    if call == PARAGRAPH:
        return paragraph(document, numbers[0])
    if call == STRETCHES:
        return stretches(document)
    raise UnknownCall(f"call {call} is not known here")
