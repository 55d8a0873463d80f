"""Journals and records of desks."""

from closestfit.commands import MOST_COMMANDS, new_stand
from closestfit.desk import Desk
from closestfit.errors import BadValue
from closestfit.forms import are_ascending_indexes, is_tuple_of


def replayed(signature, generics, journal):
    """A new desk that has carried out the commands of the journal."""
    desk = Desk(signature, generics)
    if not is_tuple_of(journal, 0, MOST_COMMANDS) or not all([isinstance(command, tuple) for command in journal]):
        raise BadValue("journal")
    for command in journal:
        desk.act(command)
    return desk


def are_right(signature, generics, records):
    """Whether the records are right; no use is done for that."""
    stand = new_stand(signature, generics)
    if not is_tuple_of(records, 0, MOST_COMMANDS):
        return False
    for record in records:
        stand = stand_behind(stand, record)
        if stand is None:
            return False
    return True


def stand_behind(stand, record):
    """What stands behind a record that holds, otherwise None."""
    if not is_tuple_of(record, 2, 2):
        return None
    command, fresh = record
    if not stand.is_command(command) or stand.reason_against(command):
        return None
    following = stand.behind(command)
    if not are_brought(following, fresh):
        return None
    following.take_up(fresh)
    right = all([following.accepts(number, value) for number, value in enumerate(following.evidence)])
    return following if right else None


def are_brought(stand, fresh):
    """Whether these are pairs of an asked use's number and something, by ascending numbers."""
    if not isinstance(fresh, tuple) or not all([is_tuple_of(pair, 2, 2) for pair in fresh]):
        return False
    return are_ascending_indexes(tuple([number for number, _ in fresh]), len(stand.asked))
