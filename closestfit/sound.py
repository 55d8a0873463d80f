"""Uses in bodies that never get stuck, and those that can."""

from closestfit.definitions import want_number, wanted_program
from closestfit.errors import BadValue
from closestfit.joints import Joint, found_sound, shows_use, told_use
from closestfit.steps import listed_uses, use_at


def loaded(program, number, path):
    """What is asked about the use in the body of the definition for which the path stands."""
    found = wanted_program(program)
    want_number(found, number)
    use = use_at(found, number, path)
    if use is None:
        raise BadValue("path")
    return Joint(found, number, use)


def joint_case(program, number, path):
    """The joint kinds, the joint case and the joint table of the use."""
    joint = loaded(program, number, path)
    table = tuple([joint.store.write(pattern) for pattern in joint.table])
    return joint.kinds, joint.store.write(joint.case), table


def use_evidence(program, number, path):
    """The told evidence that the use is sound, or that it can get stuck."""
    return told_use(loaded(program, number, path))


def is_use_evidence(program, number, path, value):
    """Whether the value is evidence about the use."""
    return shows_use(loaded(program, number, path), value)


def stuck_uses(program):
    """The pairs of number and path of all uses that can get stuck."""
    found = wanted_program(program)
    stuck = []
    for number in range(len(found.definitions)):
        for path, use in listed_uses(found, number):
            if found_sound(Joint(found, number, use))[0] == "stuck":
                stuck.append((number, path))
    return tuple(stuck)
