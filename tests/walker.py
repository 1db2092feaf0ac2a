"""A walker that sets a source by recursion, to compare the program with.

It goes straight by the points 11 to 20, without an agenda: a put that springs
a trap reads its macro before it comes back. Words, lines and traps are taken
from the modules that have tests of their own.
"""

import re

from trapsetter.filling import broken, fresh, set_plain, with_word
from trapsetter.lines import is_name, is_request
from trapsetter.putting import put_in_but
from trapsetter.registers import FORMS, shown
from trapsetter.traps import name_at, next_place, with_trap, without_trap
from trapsetter.words import words_of

NUMBER = re.compile(r"[0-9]{1,4}")
SIGNED = re.compile(r"[+-]?[0-9]{1,4}")
ALONE = ("pn", "vp", "dn", "dw")


class Endless(Exception):
    pass


class Line(str):
    """A line of the source that knows its number."""

    def __new__(cls, text, number):
        line = super().__new__(cls, text)
        line.number = number
        return line


def held(value, least=-9999, most=9999):
    return least if value < least else most if value > most else value


class Frame:
    def __init__(self, name, lines, args):
        self.name, self.lines, self.args = name, list(lines), args
        self.own = {}


class Walker:
    def __init__(self, length, width=None):
        self.length, self.width = length, width
        self.pages, self.page, self.faults = [], [], []
        self.traps = ()
        self.registers = {}
        self.special = {"pn": (1, "1"), "vp": (0, "1"), "dn": (0, "1"), "dw": (0, "1")}
        self.kept = {}
        self.envs = {"": fresh(20 if width is None else width)}
        self.env, self.envs_before = "", []
        self.aside, self.waiting = [], []
        self.frames = []
        self.puts = self.reads = self.line = 0
        self.ex = False
        self.macro = None
        # Numbers of lines that were read, names called, places of traps sprung.
        self.was_read, self.called, self.sprung = set(), set(), set()

    # What is seen and told

    def fault(self, word):
        self.faults.append((self.line, tuple(frame.name for frame in self.frames), word))

    def seen(self):
        told = {name: (value, 0, form) for name, (value, form) in self.special.items()}
        told["vp"] = (len(self.page), 0, told["vp"][2])
        return {**self.registers, **told}

    def value(self, name):
        value, _, form = self.seen().get(name, (0, 0, "1"))
        return shown(value, form)

    # Lines put

    def put(self, line):
        """Whether it sprang something or ended a page."""
        if self.puts == 400:
            self.fault("endless")
            raise Endless
        self.puts += 1
        if self.aside:
            leaf = self.aside[-1]
            leaf["lines"].append(line)
            if leaf["spot"] and leaf["spot"][0] == len(leaf["lines"]):
                self.spring(leaf["spot"][1])
                return True
            return False
        self.page.append(line)
        if len(self.page) < self.length:
            return self.come_to(len(self.page))
        self.pages.append(tuple(self.page))
        self.page = []
        number, form = self.special["pn"]
        self.special["pn"] = (held(number + 1), form)
        mine = len(self.pages)
        self.come_to(0)
        first = True
        while self.waiting and len(self.pages) == mine and not self.aside:
            if not first and len(self.waiting[0]) > self.left():
                break
            first = False
            for waiting in self.waiting.pop(0):
                self.put(waiting)
        return True

    def left(self):
        return next_place(self.traps, len(self.page), self.length) - len(self.page)

    def come_to(self, place):
        """Whether a trap is there, which is sprung."""
        name = name_at(self.traps, place, self.length)
        if name:
            self.sprung.add(place)
            self.spring(name)
        return bool(name)

    def spring(self, name):
        if not self.ex:
            self.call(name, ())

    def call(self, name, args):
        if self.kept.get(name, ("",))[0] != "macro":
            return self.fault("unknown")
        if len(self.frames) >= 12:
            return self.fault("deep")
        self.called.add(name)
        frame = Frame(name, self.kept[name][1], args)
        self.frames.append(frame)
        while frame.lines and not self.ex:
            self.read(frame.lines.pop(0))
        self.frames.pop()

    def brk(self):
        self.envs[self.env], line = broken(self.envs[self.env])
        if line is not None:
            self.put(line)

    def space(self, many):
        for _ in range(many):
            if self.put(""):
                return

    def end_page(self):
        mine = len(self.pages)
        while len(self.pages) == mine:
            self.put("")

    # Lines read

    def read(self, line):
        self.reads += 1
        self.was_read.add(line.number)
        if self.reads > 500:
            self.fault("endless")
            raise Endless
        frame = self.frames[-1] if self.frames else Frame("", (), ())
        strings = {name: kept[1] for name, kept in self.kept.items() if kept[0] == "string"}
        stepless = set(ALONE) - set(frame.own)
        text, after = put_in_but(line, {**self.seen(), **frame.own}, strings, frame.args, stepless)
        for name, told in after.items():
            if name in frame.own:
                frame.own[name] = told
            elif name not in ALONE:
                self.registers[name] = told
        self.do(text)

    def do(self, line):
        if is_request(line):
            word, _, rest = line[1:].partition(" ")
            rest = rest.lstrip(" ")
            action = getattr(self, "do_" + word, None) if len(word) == 2 and word.isalpha() else None
            parts = [part for part in rest.split(" ") if part]
            if action:
                action(parts, rest)
            else:
                self.call(word, tuple(parts[:9]))
        elif not self.envs[self.env][3]:
            self.envs[self.env], cells, long = set_plain(self.envs[self.env], line)
            if long:
                self.fault("long")
            self.put(cells)
        elif not words_of(line):
            self.brk()
            self.put("")
        else:
            for word in words_of(line):
                while word is not None:
                    self.envs[self.env], cells, word, long = with_word(self.envs[self.env], word)
                    if long:
                        self.fault("long")
                    if cells is not None:
                        self.put(cells)

    def put_part(self, place, part):
        env = list(self.envs[self.env])
        env[place] = part
        self.envs[self.env] = tuple(env)

    def do_br(self, parts, rest):
        self.brk()

    def do_fi(self, parts, rest):
        self.brk()
        self.put_part(3, True)

    def do_nf(self, parts, rest):
        self.brk()
        self.put_part(3, False)

    def moved(self, parts, place, origin, least, most):
        if not parts or not SIGNED.fullmatch(parts[0]):
            return self.fault("parts")
        if place == 0 and self.width is not None and parts[0].isdigit():
            return None
        self.brk()
        stands = 0 if parts[0].isdigit() else self.envs[self.env][origin]
        self.put_part(place, held(stands + int(parts[0]), least, most))

    def do_wd(self, parts, rest):
        self.moved(parts, 0, 0, 1, 40)

    def do_in(self, parts, rest):
        self.moved(parts, 1, 1, 0, 20)

    def do_ti(self, parts, rest):
        self.moved(parts, 2, 1, 0, 20)

    def do_ta(self, parts, rest):
        if not 1 <= len(parts) <= 8 or not all(NUMBER.fullmatch(part) for part in parts):
            return self.fault("parts")
        stops = [int(part) for part in parts]
        if stops != sorted({stop for stop in stops if 1 <= stop <= 60}):
            return self.fault("parts")
        self.put_part(4, tuple(stops))

    def do_sp(self, parts, rest):
        if parts and not NUMBER.fullmatch(parts[0]):
            return self.fault("parts")
        self.brk()
        self.space(int(parts[0]) if parts else 1)

    def do_bp(self, parts, rest):
        if self.aside:
            return self.fault("aside")
        self.brk()
        if self.aside:
            return self.fault("aside")
        self.end_page()

    def do_wh(self, parts, rest):
        if not parts or not SIGNED.fullmatch(parts[0]):
            return self.fault("parts")
        place = int(parts[0])
        if place < -self.length or place >= self.length:
            return self.fault("parts")
        if len(parts) == 1:
            self.traps = without_trap(self.traps, place, self.length)
        elif not is_name(parts[1], least=3):
            self.fault("parts")
        else:
            self.traps = with_trap(self.traps, place, parts[1])

    def do_ne(self, parts, rest):
        if not parts or not NUMBER.fullmatch(parts[0]):
            return self.fault("parts")
        if not self.aside and self.left() < int(parts[0]):
            self.space(self.left())

    def number(self, parts, registers):
        if len(parts) < 2 or not is_name(parts[0]) or not SIGNED.fullmatch(parts[1]):
            return self.fault("parts")
        value, step, form = registers.get(parts[0], (0, 0, "1"))
        if len(parts) > 2:
            if not SIGNED.fullmatch(parts[2]):
                return self.fault("parts")
            step = int(parts[2])
        stands = 0 if parts[1].isdigit() else value
        registers[parts[0]] = (held(stands + int(parts[1])), step, form)

    def do_nr(self, parts, rest):
        if parts and self.frames and parts[0] in self.frames[-1].own:
            return self.number(parts, self.frames[-1].own)
        if parts and parts[0] in ("vp", "dn", "dw"):
            return self.fault("parts")
        if parts and parts[0] == "pn":
            told = {"pn": (self.special["pn"][0], 0, self.special["pn"][1])}
            self.number(parts[:2], told)
            self.special["pn"] = (told["pn"][0], told["pn"][2])
            return None
        self.number(parts, self.registers)

    def do_lr(self, parts, rest):
        if not self.frames:
            return self.fault("call")
        self.number(parts, self.frames[-1].own)

    def do_af(self, parts, rest):
        if len(parts) < 2 or not is_name(parts[0]) or parts[1] not in FORMS:
            return self.fault("parts")
        name = parts[0]
        if self.frames and name in self.frames[-1].own:
            self.frames[-1].own[name] = (*self.frames[-1].own[name][:2], parts[1])
        elif name in ALONE:
            self.special[name] = (self.special[name][0], parts[1])
        else:
            self.registers[name] = (*self.registers.get(name, (0, 0))[:2], parts[1])

    def do_ds(self, parts, rest):
        if not parts or not is_name(parts[0], least=3):
            return self.fault("parts")
        self.kept[parts[0]] = ("string", rest[len(parts[0]) + 1:])

    def do_rm(self, parts, rest):
        if not parts or not is_name(parts[0], least=3):
            return self.fault("parts")
        if self.kept.pop(parts[0], None) is None:
            self.fault("unknown")

    def do_rn(self, parts, rest):
        if len(parts) < 2 or not is_name(parts[0], least=3) or not is_name(parts[1], least=3):
            return self.fault("parts")
        if parts[0] not in self.kept:
            return self.fault("unknown")
        self.kept[parts[1]] = self.kept.pop(parts[0])

    def do_de(self, parts, rest):
        if not parts or not is_name(parts[0], least=3):
            return self.fault("parts")
        closing = "." + (parts + ["."])[1]
        if not self.frames:
            self.macro = (parts[0], closing, [])
            return None
        lines, taken, is_closed = self.frames[-1].lines, [], False
        while lines and not is_closed:
            line = lines.pop(0)
            if line == closing:
                is_closed = True
                self.was_read.add(line.number)
            else:
                taken.append(line)
        self.kept[parts[0]] = ("macro", tuple(taken))
        if not is_closed:
            self.fault("open")

    def do_rt(self, parts, rest):
        if not self.frames:
            return self.fault("call")
        self.frames[-1].lines.clear()

    def do_if(self, parts, rest):
        found = re.fullmatch(r"([+-]?[0-9]{1,4}) +([<=>]) +([+-]?[0-9]{1,4})(?: +(.*))?", rest)
        if not found:
            return self.fault("parts")
        left, right = int(found[1]), int(found[3])
        holds = {"<": left < right, "=": left == right, ">": left > right}[found[2]]
        if holds and found[4]:
            self.do(found[4])

    def do_ex(self, parts, rest):
        self.ex = True

    def do_di(self, parts, rest):
        if parts:
            if not is_name(parts[0], least=3):
                return self.fault("parts")
            self.brk()
            self.aside.append({"name": parts[0], "lines": [], "spot": None})
            return None
        if not self.aside or not self.aside[-1]["name"]:
            return self.fault("aside")
        self.brk()
        if self.aside and self.aside[-1]["name"]:
            leaf = self.aside.pop()
            self.kept[leaf["name"]] = ("leaf", tuple(leaf["lines"]))
            self.special["dn"] = (len(leaf["lines"]), self.special["dn"][1])
            self.special["dw"] = (max(map(len, leaf["lines"]), default=0), self.special["dw"][1])

    def do_dt(self, parts, rest):
        if len(parts) < 2 or not NUMBER.fullmatch(parts[0]) or int(parts[0]) == 0:
            return self.fault("parts")
        if not is_name(parts[1], least=3):
            return self.fault("parts")
        if not self.aside or not self.aside[-1]["name"]:
            return self.fault("aside")
        self.aside[-1]["spot"] = (int(parts[0]), parts[1])

    def do_gb(self, parts, rest):
        if not parts or not is_name(parts[0], least=3):
            return self.fault("parts")
        kind, lines = self.kept.get(parts[0], ("", ()))
        if kind != "leaf":
            return self.fault("unknown")
        self.brk()
        for line in lines:
            self.put(line)

    def do_ev(self, parts, rest):
        if not parts:
            if not self.envs_before:
                return self.fault("first")
            self.env = self.envs_before.pop()
            return None
        if not is_name(parts[0]):
            return self.fault("parts")
        if len(self.envs_before) >= 20:
            return self.fault("deep")
        self.envs_before.append(self.env)
        self.env = parts[0]
        self.envs.setdefault(self.env, fresh())

    def do_fl(self, parts, rest):
        if self.aside:
            return self.fault("aside")
        self.brk()
        if self.aside:
            return self.fault("aside")
        self.aside.append({"name": "", "lines": [], "spot": None})

    def do_ef(self, parts, rest):
        if not self.aside or self.aside[-1]["name"]:
            return self.fault("aside")
        self.brk()
        lines = self.aside.pop()["lines"]
        if self.waiting or len(lines) > self.left():
            self.waiting.append(lines)
        else:
            for line in lines:
                self.put(line)

    # A whole source

    def hand(self, number, line):
        self.line = number
        if self.macro:
            if line == self.macro[1]:
                self.was_read.add(number)
                self.kept[self.macro[0]] = ("macro", tuple(self.macro[2]))
                self.macro = None
            else:
                self.macro[2].append(line)
        elif not self.ex:
            self.read(line)

    def finish(self, number):
        self.line = number
        if self.macro:
            self.kept[self.macro[0]] = ("macro", tuple(self.macro[2]))
            self.fault("open")
        self.aside, self.ex = [], False
        self.brk()
        while self.waiting:
            self.aside = []
            self.end_page()

    def walk(self, source):
        try:
            for number, line in enumerate(source):
                self.hand(number, Line(line, number))
            self.finish(len(source))
        except Endless:
            self.frames = []
        if self.page:
            self.pages.append(tuple(self.page) + ("",) * (self.length - len(self.page)))
            self.page = []
        return self.pages, self.faults


def walked(source, length, width=None):
    """The pages and faults of a source, and the walker that set it."""
    walker = Walker(length, width)
    pages, faults = walker.walk(source)
    return pages, faults, walker
