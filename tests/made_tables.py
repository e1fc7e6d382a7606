"""Tables for tests, and slow ways to the least one."""

from anytwo.letters import LETTERS

# The table that no word breaks.
NONE = (((0,) * 17,), (False,))
MAKING = 16


def row(state, **more):
    """A row of which all letters lead to this state, but for those named: e_u, y_new .."""
    told = {name.replace("_", "."): onward for name, onward in more.items()}
    return tuple(told.get(letter, state) for letter in LETTERS)


def random_table(source, many, bad_share, letters=17):
    """A table in which only the last letters, y.new among them, lead elsewhere."""
    moves = []
    for state in range(many):
        onward = [source.randrange(many) for _ in range(letters)]
        moves.append((state,) * (17 - letters) + tuple(onward))
    return (tuple(moves), tuple(source.random() < bad_share for _ in range(many)))


def slow_least(table_):
    """The least table, by marking the pairs of states that differ; of any number of states."""
    moves, bad = table_
    met = [(0, False)]
    for state, seen in met:
        for letter in range(17):
            onward = (moves[state][letter], seen or letter == MAKING)
            if onward not in met:
                met.append(onward)
    at = {one: number for number, one in enumerate(met)}
    rows = [[at[(moves[state][k], seen or k == MAKING)] for k in range(17)] for state, seen in met]
    ends = [seen and bad[state] for state, seen in met]
    differ = {(one, two) for one in range(len(met)) for two in range(len(met)) if ends[one] != ends[two]}
    grown = True
    while grown:
        grown = False
        for one in range(len(met)):
            for two in range(one):
                if (one, two) not in differ:
                    if any((rows[one][k], rows[two][k]) in differ for k in range(17)):
                        differ |= {(one, two), (two, one)}
                        grown = True
    like = [min(two for two in range(len(met)) if (one, two) not in differ) for one in range(len(met))]
    order = [0]
    for one in order:
        for k in range(17):
            if like[rows[one][k]] not in order:
                order.append(like[rows[one][k]])
    number = {one: at for at, one in enumerate(order)}
    return (
        tuple(tuple(number[like[rows[one][k]]] for k in range(17)) for one in order),
        tuple(ends[one] for one in order),
    )


def ring(many, bad, letter=5):
    """A table that goes round by one letter, and stays by all others."""
    moves = []
    for state in range(many):
        onward = [state] * 17
        onward[letter] = (state + 1) % many
        moves.append(tuple(onward))
    return (tuple(moves), tuple(state in bad for state in range(many)))


def slow_size(table_):
    """The sorts of states that the least table would have, by refining: of any number of states."""
    moves, bad = table_
    met = [(0, False)]
    known = set(met)
    for state, seen in met:
        for k in range(17):
            onward = (moves[state][k], seen or k == MAKING)
            if onward not in known:
                known.add(onward)
                met.append(onward)
    sort = {(state, seen): seen and bad[state] for state, seen in met}
    while True:
        finer = {
            (state, seen): (sort[state, seen],) + tuple(sort[moves[state][k], seen or k == MAKING] for k in range(17))
            for state, seen in met
        }
        number = {sight: at for at, sight in enumerate(dict.fromkeys(finer.values()))}
        if len(number) == len(set(sort.values())):
            return set(sort.values())
        sort = {one: number[sight] for one, sight in finer.items()}


def turned(source, table_):
    """The same table with its states in another order, but for the first one."""
    moves, bad = table_
    order = [0] + source.sample(range(1, len(bad)), len(bad) - 1)
    where = [order.index(state) for state in range(len(bad))]
    return (
        tuple(tuple(where[onward] for onward in moves[state]) for state in order),
        tuple(bad[state] for state in order),
    )


def doubled(source, table_):
    """A table of twice as many states that is broken by the same words."""
    moves, bad = table_
    many = len(bad)
    return (
        tuple(tuple(onward + many * source.randrange(2) for onward in one) for one in moves + moves),
        bad + bad,
    )


def bad_tables():
    """Things that are no tables, each with the name and the what of the error that tells so."""
    good = (0,) * 17
    return [
        (None, "BadTable", 0), ((), "BadTable", 0), (((), ()), "BadTable", 0), (((good,), (0,)), "BadTable", 0),
        (((good, (0,) * 16), (True, True)), "BadTable", 1), (((good, (2,) * 17), (True, True)), "BadTable", 1),
        (((good, (True,) * 17), (True, True)), "BadTable", 1), (((good, good), (True, None)), "BadTable", 1),
        (((good,) * 201, (False,) * 201), "TooMany", 201), (((good,) * 300, (True,) * 300), "TooMany", 300),
        (((good,) * 300 + ((),), (True,) * 301), "BadTable", 300),
    ]
