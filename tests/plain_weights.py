"""Points 127 to 135, read plainly, apart from the program. Parameters are pairs of a name and an index."""

from tests.plain import places
from tests.plain_cases import has_true_or_false, is_variable, variables_in
from tests.plain_programs import body_at, kinds_of, listed, names_of


def uses(program):
    return tuple((number, path) for number, row in enumerate(program[2]) for path in listed(program, row[2]))


def parameters(program):
    return [(name, i) for name in names_of(program) for i in range(len(kinds_of(program, name)))]


def count(variable, term):
    if is_variable(term):
        return int(term == variable)
    return sum(count(variable, part) for part in term[1:])


def ends_of(program, use):
    """The terms of the pattern and the arguments of a use in bodies, each under its parameter."""
    number, path = use
    name, pattern, body = program[2][number]
    inner = body_at(body, path)
    return ({(name, i): term for i, term in enumerate(pattern)}, {(inner[0], i): term for i, term in enumerate(inner[1:])})


def awaited(program, use):
    return [parameter for parameter, term in ends_of(program, use)[1].items() if listed(program, term)]


def variables_of(program, use):
    return sorted(variables_in(program[2][use[0]][1]))


def weight_at(program, weights, parameter):
    return weights[names_of(program).index(parameter[0])][parameter[1]]


def at_use(program, weights, use):
    """Point 129."""
    ahead, behind = ends_of(program, use)
    if any(weight_at(program, weights, parameter) for parameter in awaited(program, use)):
        return "neither"

    def total(terms, how):
        return sum(weight_at(program, weights, parameter) * how(term) for parameter, term in terms.items()
                   if weight_at(program, weights, parameter))
    for variable in variables_of(program, use):
        if total(behind, lambda term: count(variable, term)) > total(ahead, lambda term: count(variable, term)):
            return "neither"
    before, after = total(ahead, places), total(behind, places)
    return "neither" if after > before else "holds" if after == before else "falls"


def measure(program, weights, use):
    return sum(weight_at(program, weights, (use[0], i)) * places(value) for i, value in enumerate(use[1:]))


def is_natural(value):
    return isinstance(value, int) and value >= 0


def are_weights(program, value):
    return (isinstance(value, tuple) and len(value) == len(names_of(program))
            and all(isinstance(row, tuple) and len(row) == len(kinds_of(program, name)) and all(map(is_natural, row))
                    for name, row in zip(names_of(program), value)))


def is_mix(program, value, some):
    """Whether it is a mix over these uses, which are numbers of uses in bodies."""
    every = uses(program)
    if not isinstance(value, tuple) or len(value) != len(every):
        return False
    for number, (pair, use) in enumerate(zip(value, every)):
        if not isinstance(pair, tuple) or len(pair) != 2 or not is_natural(pair[0]) or not isinstance(pair[1], tuple):
            return False
        if len(pair[1]) != len(variables_of(program, use)) or not all(map(is_natural, pair[1])):
            return False
        if number not in some and any((pair[0], *pair[1])):
            return False
    return True


def gains_nothing(program, mix, some):
    """Point 132."""
    every = uses(program)
    barred = {parameter for number in some for parameter in awaited(program, every[number])}
    for parameter in parameters(program):
        if parameter in barred:
            continue
        total = 0
        for number in some:
            times, counts = mix[number]
            ahead, behind = ends_of(program, every[number])
            for terms, sign in ((ahead, 1), (behind, -1)):
                if parameter in terms:
                    total += sign * times * places(terms[parameter])
                    for variable, by in zip(variables_of(program, every[number]), counts):
                        total += sign * by * count(variable, terms[parameter])
        if total > 0:
            return False
    return True


def is_right_mix(program, mix, some, counted):
    return is_mix(program, mix, some) and gains_nothing(program, mix, some) and all(mix[number][0] for number in counted)


def accepts_weights(program, value):
    if has_true_or_false(value) or not isinstance(value, tuple) or len(value) != 2:
        return False
    every = uses(program)
    numbers = range(len(every))
    if value[0] == "weights":
        return are_weights(program, value[1]) and all(at_use(program, value[1], use) == "falls" for use in every)
    return value[0] == "mix" and is_right_mix(program, value[1], numbers, ()) and any(pair[0] for pair in value[1])


def accepts_layers(program, value):
    if has_true_or_false(value) or not isinstance(value, tuple) or len(value) < 3:
        return False
    every = uses(program)
    word, numbers, layers = value[:3]
    if (word, len(value)) not in (("layers", 3), ("stuck", 4)) or not isinstance(numbers, tuple) or len(numbers) != len(every):
        return False
    if not all(number is None or is_natural(number) for number in numbers) or (None in numbers) != (word == "stuck"):
        return False
    if not isinstance(layers, tuple) or any(number is not None and number >= len(layers) for number in numbers):
        return False
    for index, layer in enumerate(layers):
        left = [at for at, number in enumerate(numbers) if number is None or number >= index]
        later = [at for at in left if numbers[at] != index]
        if not isinstance(layer, tuple) or len(layer) != 2 or not are_weights(program, layer[0]) or len(later) == len(left):
            return False
        for at in left:
            state = at_use(program, layer[0], every[at])
            if state == "neither" or (numbers[at] == index and state != "falls"):
                return False
        if not is_right_mix(program, layer[1], left, later):
            return False
    stuck = [at for at, number in enumerate(numbers) if number is None]
    return word == "layers" or is_right_mix(program, value[3], stuck, stuck)
