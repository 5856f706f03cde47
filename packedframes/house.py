"""The house of pictures and streams, and the answers to a list of calls on a new one."""

from packedframes.lone_calls import answer_lone_call, is_lone_call
from packedframes.packet_calls import answer_packet_call
from packedframes.picture_calls import answer_picture_call, is_picture_call
from packedframes.stream_calls import answer_stream_call, is_stream_call

# How many whole numbers follow each call's number, without those of its row.
ARGUMENTS = {
    0: 3, 1: 1, 2: 3, 3: 2, 4: 1, 5: 4, 6: 4, 7: 2, 8: 2, 9: 1, 10: 1, 11: 1, 12: 1, 13: 1, 14: 3, 15: 2,
    16: 2, 17: 2, 18: 1, 19: 2, 20: 0, 21: 2, 22: 4, 23: 0, 24: 0,
}
WITH_ROW = (0, 10, 20)


class House:
    """All that calls find and change: pictures and streams by their keys, and the next stamp."""

    def __init__(self):
        self.pictures = {}
        self.streams = {}
        self.stamp = 1


def row_place(calls, at):
    """The place behind the whole numbers of the call at a place: there its row would begin."""
    return at + 1 + ARGUMENTS[calls[at]]


def call_numbers(calls, at):
    """The whole numbers of the call at a place, then those of its row, without their count."""
    place = row_place(calls, at)
    numbers = calls[at + 1:place]
    if calls[at] in WITH_ROW:
        numbers = numbers + calls[place + 1:place + 1 + calls[place]]
    return numbers


def call_end(calls, at):
    """The place behind the call at a place."""
    place = row_place(calls, at)
    if calls[at] in WITH_ROW:
        return place + 1 + calls[place]
    return place


def answer(house, number, numbers):
    """What one call answers."""
    if is_picture_call(number):
        return answer_picture_call(house, number, numbers)
    if is_stream_call(number):
        return answer_stream_call(house, number, numbers)
    if is_lone_call(number):
        return answer_lone_call(number, numbers)
    return answer_packet_call(house, number, numbers)


def answers(calls):
    """For each call, on a house that's new, how many numbers it answers, then they."""
    house = House()
    told = []
    at = 0
    while at < len(calls):
        numbers = answer(house, calls[at], call_numbers(calls, at))
        told.append(len(numbers))
        told.extend(numbers)
        at = call_end(calls, at)
    return told
