"""Blind touches that several ways share (points 79, 80 and 81)."""

from restlesshelf.checks import check_habit, check_layout, check_layouts, is_layout, is_place, is_rising, is_row
from restlesshelf.errors import BadLayouts, TooMany
from restlesshelf.flows import flow_of, is_access, reached_of
from restlesshelf.gathering import Gathering
from restlesshelf.grounds import Ground
from restlesshelf.moves import MOST_LAYOUTS, move
from restlesshelf.planning import check_choices, rows_of
from restlesshelf.plans import check_plan_on_shelf, check_program_on_shelf, layout_behind
from restlesshelf.writing import START, Draft

MOST_SOURCES = 5


def shared(habit, sources, layout):
    """The fewest pairs of a layout and a place whose touches lead every source to a layout."""
    check_habit(habit)
    check_layouts(sources, len(habit))
    check_layout(layout, len(habit))
    ground = Ground(habit, layout)
    if len(sources) > MOST_SOURCES or not all([source in ground.numbers for source in sources]):
        raise BadLayouts("too many sources, or one that cannot come")
    return shared_on(ground, sources, layout)


def leads_all(habit, sources, layout, value):
    """Whether a value is pairs of a layout and a place whose touches lead every source to a layout, few or not."""
    check_habit(habit)
    check_layouts(sources, len(habit))
    check_layout(layout, len(habit))
    if not are_touches(value, len(habit)):
        return False
    places = dict(value)
    return all([leads(habit, places, source, layout) for source in sources])


def shared_touches(habit, layout, program, plan):
    """How few blind touches a program needs, written out by a plan, if the ways to an instruction share theirs."""
    check_plan_on_shelf(habit, layout, program, plan)
    touches = touches_by_plan(habit, layout, program, plan)
    return sum([len(touches[at]) for at in touches])


def written_shared(habit, layout, program, plan):
    """A restless program that carries a still one, with just as many blind touches as shared_touches tells."""
    check_plan_on_shelf(habit, layout, program, plan)
    writer = SharedWriter(habit, program, plan, touches_by_plan(habit, layout, program, plan))
    writer.write_from((0, layout))
    return writer.draft.finished()


def least_shared(habit, layout, program):
    """The first plan with the fewest shared touches, and how many these are."""
    check_program_on_shelf(habit, layout, program)
    ground = Ground(habit, layout)
    check_choices(ground.many, len(reached_of(program)))
    search = SharedSearch(ground, program)
    row, touches = search.best()
    layouts = {at: ground.layouts[number] for at, number in zip(search.found, row)}
    return (tuple([layouts.get(at) for at in range(len(program))]), touches)


def are_touches(value, places):
    """Whether a value is an ascending tuple of pairs of a layout and a place, no layout twice."""
    if not is_row(value, 0, MOST_LAYOUTS) or not all([is_row(pair, 2, 2) for pair in value]):
        return False
    if not all([is_layout(layout, places) and is_place(place, places) for layout, place in value]):
        return False
    return is_rising([layout for layout, _ in value])


def leads(habit, places, source, layout):
    """Whether touches, of the place that is told for each layout, lead a source to a layout."""
    stood = source
    for _ in range(len(places) + 1):
        if stood == layout:
            return True
        if stood not in places:
            return False
        stood = move(habit, stood, places[stood])
    # It goes round without coming there.
    return False


def shared_on(ground, sources, layout):
    """The fewest pairs for sources that can come on a ground."""
    gathering = Gathering(ground, [ground.numbers[source] for source in sources])
    touches = gathering.touches_to(ground.numbers[layout])
    return tuple(sorted([(ground.layouts[number], place) for number, place in touches]))


def check_few(sources):
    if len(sources) > MOST_SOURCES:
        raise TooMany(MOST_SOURCES)


def arrivals_of(program):
    """For each reached instruction those from which it may come on there, the start as one for the first."""
    arrivals = {at: [] for at in reached_of(program)}
    arrivals[0].append(START)
    for at, goal in flow_of(program):
        if goal != len(program):
            arrivals[goal].append(at)
    return arrivals


def touches_by_plan(habit, layout, program, plan):
    """For each reached instruction the pairs whose touches lead all from which it is come to there to its layout."""
    behinds = {at: layout_behind(habit, plan[at], program[at]) for at in reached_of(program)}
    behinds[START] = layout
    arrivals = arrivals_of(program)
    sources = {at: tuple(sorted({behinds[before] for before in arrivals[at]})) for at in arrivals}
    for at in sources:
        check_few(sources[at])
    ground = Ground(habit, layout)
    return {at: shared_on(ground, sources[at], plan[at]) for at in sources}


class SharedWriter:
    """A restless program in the making, in which all ways to an instruction share their blind touches.

    A node is an instruction with a layout with which it is come to: the plan's own, with which it is done, or another
    one, from which a touch leads on to it.
    """

    def __init__(self, habit, program, plan, touches):
        self.habit = habit
        self.program = program
        self.plan = plan
        self.places = {at: dict(touches[at]) for at in touches}
        self.draft = Draft()

    def write_from(self, node):
        """Writes a node and all to which it may go on."""
        waiting = [node]
        while waiting:
            node = waiting.pop()
            if node not in self.draft.marks:
                waiting.extend(self.write_chain(node))

    def write_chain(self, node):
        """Writes nodes, one behind the other, up to one that is written already; those to which their zeros jump."""
        asides = []
        while node is not None and node not in self.draft.marks:
            self.draft.mark(node)
            asides.extend(self.write_node(node))
            node = self.node_behind(node)
        if node is not None:
            self.draft.write(("go", node))
        return asides

    def is_end(self, node):
        return node[0] == len(self.program)

    def is_done(self, node):
        """Whether an instruction is done at a node, and not a blind touch."""
        return node[1] == self.plan[node[0]]

    def write_node(self, node):
        """Writes what is done at a node; the nodes to which it may jump."""
        at, layout = node
        if self.is_end(node):
            self.draft.write(("stop",))
            return []
        if not self.is_done(node):
            self.draft.write(("touch", self.places[at][layout]))
            return []
        instruction = self.program[at]
        if instruction[0] == "zero":
            goal = self.node_at(instruction[1], layout)
            self.draft.write(("zero", goal))
            return [goal]
        if is_access(instruction):
            instruction = (instruction[0], layout[instruction[1]])
        # A go writes nothing: its goal stands behind it, or is gone to from there.
        if instruction[0] != "go":
            self.draft.write(instruction)
        return []

    def node_behind(self, node):
        """The node that comes behind a node if no zero jumps, None without one."""
        at, layout = node
        if self.is_end(node):
            return None
        if not self.is_done(node):
            return (at, move(self.habit, layout, self.places[at][layout]))
        instruction = self.program[at]
        if instruction[0] == "stop":
            return None
        goal = instruction[1] if instruction[0] == "go" else at + 1
        return self.node_at(goal, layout_behind(self.habit, layout, instruction))

    def node_at(self, at, layout):
        """The node at which an instruction is come to with a layout; the end is one node alone."""
        return (at, None) if at == len(self.program) else (at, layout)


class SharedSearch:
    """The search for the first plan with the fewest shared touches, by the numbers of layouts."""

    def __init__(self, ground, program):
        self.ground = ground
        self.found = reached_of(program)
        self.behinds = {at: [ground.behind(program[at], number) for number in range(ground.many)] for at in self.found}
        self.arrivals = arrivals_of(program)
        self.gatherings = {}

    def best(self):
        """The layouts of the first plan with the fewest touches, and how many."""
        rows = rows_of(self.ground.many, len(self.found))
        bounds = [(self.price(row, False), at) for at, row in enumerate(rows)]
        best = None
        # Those that may need fewest are looked at first, up to those that surely need more than the best one.
        for bound, at in sorted(bounds):
            if best is not None and bound > best[0]:
                break
            price = self.price(rows[at], True)
            if best is None or (price, at) < best:
                best = (price, at)
        return rows[best[1]], best[0]

    def price(self, row, is_exact):
        """How many touches a plan needs, or what it surely needs at least."""
        numbers = dict(zip(self.found, row))
        price = 0
        for at in self.found:
            sources = self.sources_of(at, numbers)
            price += self.fewest(sources, numbers[at]) if is_exact else self.surely(sources, numbers[at])
        return price

    def sources_of(self, at, numbers):
        """The unlike layouts with which an instruction is come to, ascending."""
        sources = []
        for before in self.arrivals[at]:
            sources.append(self.ground.start if before == START else self.behinds[before][numbers[before]])
        sources = tuple(sorted(set(sources)))
        check_few(sources)
        return sources

    def surely(self, sources, goal):
        """What sources need at least: as many touches as the farthest one, and one for each that is not there yet."""
        farthest = max([self.ground.ways[goal][source] for source in sources])
        return max(farthest, len([source for source in sources if source != goal]))

    def fewest(self, sources, goal):
        if sources not in self.gatherings:
            self.gatherings[sources] = Gathering(self.ground, sources)
        return self.gatherings[sources].fewest(goal)
