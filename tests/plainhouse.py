"""A second reading of the document, as plain as can be, to hold the program's answers against.

It shares no code with the program: bits are texts, slices are dicts by column and row,
and reading a slice calls itself for the reference.
"""

import copy

from support import slow_check

COUNTS = {0: 3, 1: 1, 2: 3, 3: 2, 4: 1, 5: 4, 6: 4, 7: 2, 8: 2, 9: 1, 10: 1, 11: 1, 12: 1, 13: 1, 14: 3, 15: 2, 16: 2,
          17: 2, 18: 1, 19: 2, 20: 0, 21: 2, 22: 4, 23: 0, 24: 0}


class Refused(Exception):
    pass


def need(holds, number):
    if not holds:
        raise Refused(number)


def predict(mode, known, x, y, reference):
    left, above, corner = known.get((x - 1, y)), known.get((x, y - 1)), known.get((x - 1, y - 1))
    if mode == 0:
        return 512
    if mode == 5:
        return reference[x, y]
    if left is None and above is None:
        return 512
    if left is None or above is None:
        return above if left is None else left
    low, high = sorted((left, above))
    if mode == 1:
        return left
    if mode == 2:
        return above
    if mode == 3:
        return sorted((0, left + above - corner, 1023))[1]
    if corner >= high:
        return low
    if corner <= low:
        return high
    return left + above - corner


def context(known, x, y):
    left, above, corner = known.get((x - 1, y)), known.get((x, y - 1)), known.get((x - 1, y - 1))
    if left is None or above is None or corner is None:
        return 0
    lively = abs(left - corner) + abs(corner - above)
    return 0 if lively <= 2 else 1 if lively <= 15 else 2


def number(v, expected):
    d = v - expected
    if d < -512:
        d += 1024
    if d > 511:
        d -= 1024
    return 2 * d if d >= 0 else -2 * d - 1


def code(u, k):
    q = u // 2 ** k
    if q < 12:
        low = f"{u % 2 ** k:0{k}b}" if k else ""
        return "1" * q + "0" + low
    return "1" * 12 + f"{u:010b}"


def choose_k(total, count):
    for k in range(10):
        if total <= count * 2 ** k:
            return k
    return 10


def learn(state, u):
    state[0] += u
    state[1] += 1
    if state[1] == 32:
        state[0] //= 2
        state[1] //= 2


def places(width, rows):
    return [(x, y) for y in rows for x in range(width)]


def coded(area, mode, reference, order):
    known = {}
    states = [[4, 1], [4, 1], [4, 1]]
    text = ""
    for x, y in order:
        state = states[context(known, x, y)]
        u = number(area[x, y], predict(mode, known, x, y, reference))
        text += code(u, choose_k(*state))
        learn(state, u)
        known[x, y] = area[x, y]
    text += "0" * (-len(text) % 8)
    return [int(text[at:at + 8], 2) for at in range(0, len(text), 8)]


CODES = [{code(u, k): u for u in range(1024)} for k in range(11)]


def first_number(text, k):
    """The number whose code begins the text: all codes by one k begin unlike, so there's one at most."""
    found = [CODES[k][text[:size]] for size in range(1, 23) if text[:size] in CODES[k] and size <= len(text)]
    return found[0] if found else None


def value(u, expected):
    """The value of which u is the number: one of these few is."""
    half = (u + 1) // 2
    near = [expected + half, expected - half, expected + half - 1024, expected - half + 1024]
    return [v for v in near if 0 <= v <= 1023 and number(v, expected) == u][0]


def decoded(octets, mode, reference, order):
    text = "".join(f"{octet:08b}" for octet in octets)
    known = {}
    states = [[4, 1], [4, 1], [4, 1]]
    for x, y in order:
        state = states[context(known, x, y)]
        k = choose_k(*state)
        expected = predict(mode, known, x, y, reference)
        u = first_number(text, k)
        if u is None:
            return None
        text = text[len(code(u, k)):]
        learn(state, u)
        known[x, y] = value(u, expected)
    if len(text) >= 8 or "1" in text:
        return None
    return known


class PlainHouse:
    def __init__(self):
        self.pictures = {}
        self.streams = {}
        self.stamp = 1

    def stream(self, key):
        need(1 <= key <= 99, -1)
        need(key in self.streams, -4)
        return self.streams[key]

    def packet(self, key, i):
        need(1 <= key <= 99 and 0 <= i <= 99, -1)
        stream = self.stream(key)
        need(i < len(stream["packets"]), -4)
        return stream["packets"][i]

    def do_0(self, key, w, h, row):
        need(1 <= key <= 99 and 1 <= w <= 24 and 1 <= h <= 24, -1)
        need(len(row) == w * h and all(0 <= v <= 1023 for v in row), -1)
        need(key in self.pictures or len(self.pictures) < 6, -9)
        self.pictures[key] = (w, h, dict(zip(places(w, range(h)), row)))
        return [0]

    def do_1(self, key):
        need(1 <= key <= 99, -1)
        need(key in self.pictures, -4)
        w, h, area = self.pictures[key]
        return [w, h] + [area[place] for place in places(w, range(h))]

    def do_2(self, key, count, reference):
        need(1 <= count <= 8 and 0 <= reference <= 99, -1)
        need(1 <= key <= 99, -1)
        need(key in self.pictures, -4)
        w, h, area = self.pictures[key]
        need(count <= h, -3)
        need(key in self.streams or len(self.streams) < 6, -9)
        stamp = 0
        if reference:
            need(reference in self.streams, -4)
            other = self.streams[reference]
            need((other["w"], other["h"], other["slices"]) == (w, h, count), -5)
            passed = [reference]
            while passed[-1]:
                passed.append(self.streams[passed[-1]]["reference"])
            need(key not in passed, -7)
            stamp = other["stamp"]
        stream = {"stamp": self.stamp, "w": w, "h": h, "slices": count, "reference": reference,
                  "reference_stamp": stamp, "area": dict(area), "packets": []}
        for i in range(count):
            modes = range(6) if reference else range(5)
            source = self.streams[reference]["area"] if reference else None
            tries = [self.sealed(stream, i, mode, source) for mode in modes]
            least = min(len(octets) for octets in tries)
            stream["packets"].append([[octets for octets in tries if len(octets) == least][0], 0])
        self.stamp += 1
        self.streams[key] = stream
        return [len(octets) for octets, hits in stream["packets"]]

    def head(self, stream, i, mode):
        return [*divmod(stream["stamp"], 256), i, stream["slices"], mode, stream["w"], stream["h"],
                stream["reference"], *divmod(stream["reference_stamp"], 256)]

    def order(self, stream, i):
        h, count = stream["h"], stream["slices"]
        return places(stream["w"], [y for y in range(h) if i * h // count <= y <= (i + 1) * h // count - 1])

    def sealed(self, stream, i, mode, source):
        octets = self.head(stream, i, mode) + coded(stream["area"], mode, source, self.order(stream, i))
        return octets + list(slow_check(octets).to_bytes(4, "big"))

    def do_3(self, key, i):
        octets = self.packet(key, i)[0]
        return [len(octets)] + octets

    def do_4(self, key):
        row = self.stream(key)["packets"]
        return [len(row)] + [len(octets) for octets, hits in row]

    def do_5(self, key, i, byte, bit):
        need(0 <= byte <= 9999 and 0 <= bit <= 7, -1)
        found = self.packet(key, i)
        need(byte < len(found[0]), -3)
        need(found[1] < 3, -8)
        found[0] = [octet ^ (2 ** bit if at == byte else 0) for at, octet in enumerate(found[0])]
        found[1] += 1
        return [0]

    def do_6(self, key, i, bit, pattern):
        need(0 <= bit <= 99999 and 1 <= pattern <= 4294967295, -1)
        found = self.packet(key, i)
        text = "".join(f"{octet:08b}" for octet in found[0])
        need(bit < len(text), -3)
        need(found[1] == 0, -8)
        hit = "0" * bit + f"{pattern:032b}"[::-1]
        hit = (hit + "0" * len(text))[:len(text)]
        turned = "".join("1" if one != other else "0" for one, other in zip(text, hit))
        found[0] = [int(turned[at:at + 8], 2) for at in range(0, len(turned), 8)]
        found[1] = 9
        return [0]

    def do_7(self, key, i):
        self.packet(key, i)
        row = self.streams[key]["packets"]
        self.streams[key]["packets"] = row[:i] + row[i + 1:]
        return [len(row) - 1]

    def do_8(self, key, i):
        found = self.packet(key, i)
        row = self.streams[key]["packets"]
        need(len(row) < 20, -9)
        row.append(list(found))
        return [len(row)]

    def do_9(self, key):
        self.stream(key)["packets"].reverse()
        return [len(self.streams[key]["packets"])]

    def do_10(self, key, octets):
        need(len(octets) <= 1600 and all(0 <= octet <= 255 for octet in octets), -1)
        row = self.stream(key)["packets"]
        need(len(row) < 20, -9)
        row.append([octets, 9])
        return [len(row)]

    def fits(self, stream, i, octets):
        if len(octets) < 14:
            return False
        modes = range(6) if stream["reference"] else range(5)
        if octets[:10] not in [self.head(stream, i, mode) for mode in modes]:
            return False
        return octets[-4:] == list(slow_check(octets[:-4]).to_bytes(4, "big"))

    def read(self, stream, i):
        """The slice's values by place, or 1 if it waits, or 0 if it isn't there."""
        state = 0
        for octets, hits in stream["packets"]:
            if not self.fits(stream, i, octets):
                continue
            mode = octets[4]
            reference = None
            if mode == 5:
                other = self.streams.get(stream["reference"])
                there = other is not None and other["stamp"] == stream["reference_stamp"]
                reference = self.read(other, i) if there else 0
                if not isinstance(reference, dict):
                    state = 1
                    continue
            area = decoded(octets[10:-4], mode, reference, self.order(stream, i))
            if area is not None:
                return area
        return state

    def do_11(self, key):
        stream = self.stream(key)
        states = [self.read(stream, i) for i in range(stream["slices"])]
        return [stream["slices"]] + [2 if isinstance(state, dict) else state for state in states]

    def do_12(self, key):
        stream = self.stream(key)
        w, h = stream["w"], stream["h"]
        area = {}
        for i in range(stream["slices"]):
            state = self.read(stream, i)
            if isinstance(state, dict):
                area.update(state)
        answer = [w, h]
        for y in range(h):
            above = [row for row in range(y + 1) if (0, row) in area][-1:]
            below = [row for row in range(y, h) if (0, row) in area][:1]
            for x in range(w):
                sides = [area[x, row] for row in above + below]
                answer.append(sum(sides) // len(sides) if sides else 512)
        return answer

    def do_13(self, key):
        unpacked = self.do_12(key)[2:]
        stream = self.streams[key]
        packed = [stream["area"][place] for place in places(stream["w"], range(stream["h"]))]
        off = [max(v, other) - min(v, other) for v, other in zip(packed, unpacked) if v != other]
        return [len(off), max(off + [0])]

    def do_14(self, key, count, mode):
        need(1 <= count <= 8 and 0 <= mode <= 4, -1)
        need(1 <= key <= 99, -1)
        need(key in self.pictures, -4)
        w, h, area = self.pictures[key]
        need(count <= h, -3)
        stream = {"stamp": self.stamp, "w": w, "h": h, "slices": count, "reference": 0, "reference_stamp": 0,
                  "area": area}
        return [len(self.sealed(stream, i, mode, None)) for i in range(count)]

    def do_15(self, key, new):
        need(1 <= new <= 99, -1)
        stream = self.stream(key)
        need(new in self.streams or len(self.streams) < 6, -9)
        passed = [stream["reference"]]
        while passed[-1]:
            passed.append(self.streams[passed[-1]]["reference"])
        need(new not in passed, -7)
        self.streams[new] = copy.deepcopy(stream)
        return [0]

    def do_16(self, a, b):
        need(1 <= a <= 99 and 1 <= b <= 99, -1)
        one, other = self.stream(a), self.stream(b)
        missing = [i for i in range(one["slices"]) if not isinstance(self.read(one, i), dict)]
        found = [each for each in other["packets"] if any(self.fits(one, i, each[0]) for i in missing)]
        need(len(one["packets"]) + len(found) <= 20, -9)
        one["packets"] = one["packets"] + copy.deepcopy(found)
        return [len(one["packets"])]

    def do_17(self, key, picture):
        need(1 <= picture <= 99, -1)
        self.stream(key)
        need(picture in self.pictures or len(self.pictures) < 6, -9)
        w, h, *row = self.do_12(key)
        return self.do_0(picture, w, h, row)

    def do_18(self, key):
        need(1 <= key <= 99, -1)
        need(key in self.pictures, -4)
        del self.pictures[key]
        return [0]

    def do_19(self, a, b):
        need(1 <= a <= 99 and 1 <= b <= 99, -1)
        need(a in self.pictures and b in self.pictures, -4)
        w, h, area = self.pictures[a]
        need(self.pictures[b][:2] == (w, h), -5)
        unlike = [place for place in places(w, range(h)) if area[place] != self.pictures[b][2][place]]
        return [0, *unlike[0]] if unlike else [1]

    def do_20(self, octets):
        need(len(octets) <= 1600 and all(0 <= octet <= 255 for octet in octets), -1)
        return [slow_check(octets)]

    def do_21(self, k, u):
        need(0 <= k <= 10 and 0 <= u <= 1023, -1)
        return [len(code(u, k))] + [int(sign) for sign in code(u, k)]

    def do_22(self, mode, a, b, c):
        need(0 <= mode <= 4 and 0 <= min(a, b, c) and max(a, b, c) <= 1023, -1)
        known = {(0, 1): a, (1, 0): b, (0, 0): c}
        return [predict(mode, known, 1, 1, None), context(known, 1, 1)]

    def do_23(self):
        return [len(self.pictures)] + [key for key in range(1, 100) if key in self.pictures]

    def do_24(self):
        return [len(self.streams)] + [key for key in range(1, 100) if key in self.streams]


def plain_answers(calls):
    """What the document asks to be answered."""
    house = PlainHouse()
    told = []
    rest = list(calls)
    while rest:
        name, count = rest[0], COUNTS[rest[0]]
        arguments, rest = rest[1:1 + count], rest[1 + count:]
        if name in (0, 10, 20):
            arguments, rest = arguments + [rest[1:1 + rest[0]]], rest[1 + rest[0]:]
        try:
            answer = getattr(house, f"do_{name}")(*arguments)
        except Refused as refusal:
            answer = [refusal.args[0]]
        told += [len(answer)] + answer
    return told
