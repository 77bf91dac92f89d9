"""What the statements looked at so far tell: names, members, tables and unknowns."""

from planwell.errors import BadEnds, BadName, BadTable, TooMany
from planwell.fractions import less
from planwell.sums import plain, single
from planwell.terms import Entry, Sum

MOST_UNKNOWNS = 40
MOST_BETWEEN_ENDS = 100


class World:
    def __init__(self):
        self.headings = {}
        self.groups = {}
        self.known_members = {}
        # Of each table and each unknown its sets, and the sum at each of its keys.
        self.bases = {}
        self.cells = {}
        self.columns = []

    def learn(self, statement):
        kind = statement[0]
        if kind == "set":
            self.learn_set(statement[1], statement[2])
        elif kind == "table":
            self.learn_table(statement[1], statement[2], statement[3])
        elif kind == "unknown":
            self.learn_unknown(statement)
        elif kind == "row":
            self.learn_row(statement)
        else:
            self.look(statement[2], ())

    def members(self, name):
        if name not in self.groups:
            raise BadName(f"{name!r} is no set told ahead")
        return self.groups[name]

    def entry(self, name, keys):
        cells = self.cells.get(name, {})
        if keys not in cells:
            raise BadName(f"{name!r} is no table and no unknown with such keys")
        return cells[keys]

    def unknowns(self):
        return list(self.columns)

    def look(self, term, binders):
        self.look_at(term, self.bound(binders, ""), "")

    def learn_set(self, name, names):
        self.check_heading(name)
        for member in names:
            if member in self.headings or member == name:
                raise BadName(f"the member {member!r} is a heading")
        if len(set(names)) != len(names):
            raise BadName("a member stands twice in one set")
        self.headings[name] = True
        self.groups[name] = names
        for member in names:
            self.known_members[member] = True

    def learn_table(self, name, base, entries):
        self.check_heading(name)
        groups = [self.members(group) for group in base]
        for keys, worth in entries:
            self.check_keys(keys, base, {})
        cells = table_cells(entries)
        if len(cells) != len(keys_over(groups)):
            raise BadTable("keys of the sets are told by no entry")
        self.keep(name, base, cells)

    def learn_unknown(self, statement):
        name = statement[1]
        self.check_heading(name)
        places = keys_over([self.members(group) for group in statement[2]])
        ends = statement[3:]
        check_ends(ends[0], ends[1], ends[2])
        first = len(self.columns)
        if first + len(places) > MOST_UNKNOWNS:
            raise TooMany("there are too many unknowns")
        cells = {}
        for place, keys in enumerate(places):
            cells[keys] = single(first + place)
            self.columns.append((Entry(name, keys).shown(),) + ends)
        self.keep(name, statement[2], cells)

    def learn_row(self, statement):
        name = statement[1]
        self.check_heading(name)
        around = self.bound(statement[2], name)
        self.look_at(statement[3], around, name)
        self.look_at(statement[5], around, name)
        self.headings[name] = True

    def keep(self, name, base, cells):
        self.headings[name] = True
        self.bases[name] = base
        self.cells[name] = cells

    def check_heading(self, name):
        if name in self.headings or name in self.known_members:
            raise BadName(f"the heading {name!r} is told ahead")

    # Below, around is a dict of the binders round a term and their sets; heading that of the term's own statement,
    # which isn't known yet while it is looked at.
    def bound(self, binders, heading):
        around = {}
        for binder, group in binders:
            around = self.one_more_bound(around, binder, group, heading)
        return around

    def one_more_bound(self, around, binder, group, heading):
        if binder in self.headings or binder == heading or binder in self.known_members:
            raise BadName(f"the binder {binder!r} is told ahead")
        if binder in around:
            raise BadName(f"the binder {binder!r} is a binder round it")
        self.members(group)
        more = dict(around)
        more[binder] = group
        return more

    def look_at(self, term, around, heading):
        if isinstance(term, Sum):
            around = self.one_more_bound(around, term.binder, term.group, heading)
        if isinstance(term, Entry):
            self.look_at_entry(term.name, term.places, around)
        for part in term.parts():
            self.look_at(part, around, heading)

    def look_at_entry(self, name, keys, around):
        if name not in self.bases:
            raise BadName(f"{name!r} is no table and no unknown told ahead")
        base = self.bases[name]
        if len(keys) != len(base):
            raise BadName(f"{name!r} has as many keys as it has no sets")
        self.check_keys(keys, base, around)

    def check_keys(self, keys, base, around):
        for key, group in zip(keys, base):
            held = self.members(group)
            wanted = self.members(around[key]) if key in around else (key,)
            if not all([member in held for member in wanted]):
                raise BadName(f"the key {key!r} doesn't go with {group!r}")


def keys_over(groups):
    found = [()]
    for group in groups:
        longer = []
        for keys in found:
            longer.extend([keys + (member,) for member in group])
        found = longer
    return found


def table_cells(entries):
    cells = {}
    for keys, worth in entries:
        if keys in cells:
            raise BadTable("keys are told twice")
        cells[keys] = plain(worth)
    return cells


def check_ends(whole, low, high):
    if low is not None and high is not None and less(high, low):
        raise BadEnds("the low end is above the high one")
    if not whole:
        return
    if low is None or high is None:
        raise BadEnds("a whole unknown lacks an end")
    if low[1] != 1 or high[1] != 1:
        raise BadEnds("an end of a whole unknown is no whole number")
    if high[0] - low[0] > MOST_BETWEEN_ENDS:
        raise BadEnds("the ends of a whole unknown lie too far apart")
