"""Rows without end in flat programs."""

from closestfit.definitions import wanted_program, wanted_use
from closestfit.descents import Descents
from closestfit.falls import heads_below, shows_program, shows_use
from closestfit.heads import want_name, wanted_first, wanted_heads
from closestfit.matching import match
from closestfit.steps import listed_uses


def following(program, name, first):
    """The pairs that follow the pair of the generic with this name and this value."""
    found = wanted_program(program)
    want_name(found, name)
    node = wanted_first(found, name, first)
    heads = wanted_heads(found)
    head = (name, heads.outermost(node))
    if head not in heads.number_at:
        return ()
    number = heads.number_at[head]
    put = match(found.store, found.definitions[number].pattern[:1], (node,))
    uses = [use for _, use in listed_uses(found, number)]
    values = found.store.instance([found.store.parts[use][0] for use in uses], put)
    return tuple([(found.store.heads[use], value) for use, value in zip(uses, found.store.write(values))])


def facts(program):
    """The facts that hold, in order."""
    return Descents(wanted_heads(wanted_program(program))).ordered_facts()


def edges(program):
    """The edges, in order."""
    return Descents(wanted_heads(wanted_program(program))).ordered_edges()


def ends_evidence(program):
    """The told evidence that no use has an endless row, or that some use has one."""
    heads = wanted_heads(wanted_program(program))
    descents = Descents(heads)
    if descents.ends():
        return ("ends", descents.ordered_facts(), descents.fall(heads.order))
    start = [head for head in heads.order if head not in descents.levels][0]
    way = descents.way_to_ring(start)
    begun = [edge[:2] for edge in way].index(way[-1][2:])
    lines, number = descents.lines(way[begun:])
    return ("endless", lines, tuple([number[edge] for edge in way[begun:]]))


def accepts_ends(program, value):
    """Whether the value is evidence of either word about the program."""
    return shows_program(wanted_heads(wanted_program(program)), value)


def rows_evidence(program, use):
    """The told evidence that the use has no endless row, or that it has one."""
    found = wanted_program(program)
    node = wanted_use(found, use)
    heads = wanted_heads(found)
    descents = Descents(heads)
    generic, first = use[0], found.store.parts[node][0]
    downs = heads.downs(descents.facts, generic, first)
    lasting = [pair for pair in downs if (pair[0], heads.outermost(pair[1])) not in descents.levels]
    if not lasting:
        starts = heads_below(heads, descents.facts, generic, first)
        return ("ends", descents.ordered_facts(), descents.fall(descents.reached(starts)))
    at, below = lasting[0]
    way = descents.way_to_ring((at, heads.outermost(below)))
    lines, number = descents.lines(way)
    down = tuple([number[fact] for fact in downs[lasting[0]]])
    return ("endless", lines, down, tuple([number[edge] for edge in way]))


def accepts_rows(program, use, value):
    """Whether the value is evidence of either word about the use."""
    found = wanted_program(program)
    node = wanted_use(found, use)
    return shows_use(wanted_heads(found), value, use[0], found.store.parts[node][0])


def always_value(program):
    """Whether every use of every generic comes to a value."""
    heads = wanted_heads(wanted_program(program))
    return all([head in heads.number_at for head in heads.order]) and Descents(heads).ends()
