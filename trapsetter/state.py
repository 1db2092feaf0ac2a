"""What stands while a source is set: the page, what is kept, the calls."""

from trapsetter.filling import fresh

# Registers that are there at first; that of the page's lines is kept for its
# form alone, since how many there are is told by the page itself.
FIRST_REGISTERS = (
    ("pn", (1, 0, "1")), ("vp", (0, 0, "1")), ("dn", (0, 0, "1")), ("dw", (0, 0, "1")),
)


class Call:
    """A macro that is being read."""

    def __init__(self, name, numbers, arguments, base):
        self.name = name
        # Its lines, by their numbers in the source.
        self.numbers = numbers
        self.arguments = arguments
        # How much was due when the call was made: behind that it is read on.
        self.base = base
        self.reached = 0
        self.own = {}


class State:
    """All that a set knows; the deeds of other files change it."""

    def __init__(self, page_length, reader):
        self.page_length = page_length
        # The deed by which a line is done, told its number.
        self.reader = reader
        # Whether a width was told for the set, so that .wd N does nothing.
        self.is_bound = False
        self.ended = []
        self.standing = []
        self.laid = ()
        self.told_faults = []
        # The source's lines so far; those of macros are told by their numbers.
        self.lines = []
        self.line_number = 0
        self.reads = 0
        self.puts = 0
        self.registers = dict(FIRST_REGISTERS)
        # By their names, each (kind, what is kept): of a macro the numbers of
        # its lines, of a string its text, of a leaf its lines.
        self.kept = {}
        # The first environment has no name.
        self.environments = {None: fresh()}
        self.where = None
        self.before = []
        # What is led aside, the last begun last: (name, lines, spot), where
        # what is held has no name, and spot is None or (lines, name).
        self.aside = []
        self.waiting = []
        # A macro of the source that is being told: (name, closing, numbers).
        self.taking = None
        self.is_quiet = False
        self.is_over = False
        # Which lines were read, names called, places of traps sprung.
        self.read_numbers = {}
        self.called_names = {}
        self.sprung_places = {}
        # What is due, the next last: (deed, what it is told).
        self.agenda = []
        self.calls = []

    def copied(self):
        """Another one that stands alike, where nothing is due and no call is."""
        other = State(self.page_length, self.reader)
        other.is_bound = self.is_bound
        other.ended = list(self.ended)
        other.standing = list(self.standing)
        other.laid = self.laid
        other.told_faults = list(self.told_faults)
        other.lines = list(self.lines)
        other.line_number = self.line_number
        other.reads = self.reads
        other.puts = self.puts
        other.registers = dict(self.registers)
        other.kept = dict(self.kept)
        other.environments = dict(self.environments)
        other.where = self.where
        other.before = list(self.before)
        other.aside = list(self.aside)
        other.waiting = list(self.waiting)
        other.taking = self.taking
        other.is_quiet = self.is_quiet
        other.is_over = self.is_over
        other.read_numbers = dict(self.read_numbers)
        other.called_names = dict(self.called_names)
        other.sprung_places = dict(self.sprung_places)
        return other

    def environment(self):
        """The environment that is there."""
        return self.environments[self.where]

    def turn(self, environment):
        """Puts another one in place of the environment that is there."""
        self.environments[self.where] = environment

    def seen_registers(self):
        """The registers as they are seen where no call is."""
        _, step, form = self.registers["vp"]
        return {**self.registers, "vp": (len(self.standing), step, form)}
