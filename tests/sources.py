"""Sources made by a seed, full of requests that bear on each other."""

import random

NAMES = ("abc", "bcd", "cde", "def")
REGISTERS = ("x", "y", "pn", "vp", "dn", "dw")
ENVIRONMENTS = ("e", "f", "abc")
WORDS = ("a", "to", "the", "some", r"hy\-phen", r"a\-b\-c\-d", r"\-long\-words\-", "abcdefghij",
         r"st\\ro", r"\R(x)", r"\R(+y)", r"\R(pn)", r"\R(vp)", r"\S(abc)", r"\A(1)", r"\A(0)",
         r"ta\tb", r"\R(+vp)", r"\R(dn)", r"\R(dw)")


def number_of(chance, most):
    sign = chance.choice(("", "", "", "+", "-"))
    return sign + str(chance.randint(0, most))


def text_of(chance):
    return " ".join(chance.choice(WORDS) for _ in range(chance.randint(0, 7)))[:60]


def simple_of(chance):
    """One request line, of those that tell and take a few parts."""
    name, other = chance.choice(NAMES), chance.choice(NAMES)
    return chance.choice((
        ".br", ".fi", ".nf", ".bp", ".fl", ".ef", ".di", ".ev", ".rt", ".ex", "", " ", "..",
        f".wd {number_of(chance, 24)}", f".in {number_of(chance, 6)}", f".ti {number_of(chance, 6)}",
        f".sp {chance.randint(0, 4)}", ".sp", f".ne {chance.randint(0, 5)}", ".ta 3 6 9",
        f".wh {number_of(chance, 5)} {name}", f".wh {number_of(chance, 5)} {name}",
        f".wh {number_of(chance, 5)}", f".wh 0 {name}", f".wh -1 {name}",
        f".nr {chance.choice(REGISTERS)} {number_of(chance, 30)} {number_of(chance, 9)}",
        f".nr {chance.choice(REGISTERS)} {number_of(chance, 30)}",
        f".lr {chance.choice(REGISTERS)} {number_of(chance, 30)} {chance.randint(0, 3)}",
        f".af {chance.choice(REGISTERS)} {chance.choice(('1', '01', 'a', 'i', 'x'))}",
        f".ds {name} {text_of(chance)}"[:60], f".rm {name}", f".rn {name} {other}",
        f".di {name}", f".dt {chance.randint(0, 4)} {name}", f".gb {name}", f".gb {name}",
        f".ev {chance.choice(ENVIRONMENTS)}", f".{name}", f".{name} one two", f".{name}",
        f".zz {name}", ".sp x", ".wd", ".wh 90 abc", ".nr x", f".de {name} xx",
    ))


def line_of(chance):
    kind = chance.random()
    if kind < 0.35:
        return text_of(chance)
    if kind < 0.45:
        number = chance.choice(("1", r"\R(x)", r"\R(vp)"))
        test = f".if {number_of(chance, 2)} {chance.choice('<=>')} {number} "
        return (test + chance.choice((simple_of(chance), text_of(chance))))[:60]
    return simple_of(chance)


def source_of(seed):
    chance = random.Random(seed)
    lines = []
    for name in chance.sample(NAMES, chance.randint(0, 4)):
        lines.append(f".de {name}")
        lines += [line_of(chance) for _ in range(chance.randint(0, 5))]
        lines.append("..")
    size = chance.randint(len(lines), 60)
    while len(lines) < size:
        if chance.random() < 0.1:
            lines += [".fl", *[text_of(chance) for _ in range(chance.randint(0, 3))], ".ef"]
        elif chance.random() < 0.06:
            name = chance.choice(NAMES)
            lines += [f".di {name}", *[line_of(chance) for _ in range(chance.randint(0, 4))], ".di"]
        else:
            lines.append(line_of(chance))
    return tuple(lines[:60]), chance.choice((1, 2, 3, 4, 6, 10, 40))
