"""The grammar of [4.3] as plain rules: which things may stand next, and texts made by chance.

It knows nothing of nesting and of the greatest numbers; what is no rule is a thing.
"""

RULES = {
    "query": ["ctes body orders limit offset"],
    # A query that an atom or IN begins: its next word says that it is one.
    "worded": ["WITH ctelist body orders limit offset", "wbody orders limit offset"],
    "ctes": ["", "WITH ctelist"],
    "ctelist": ["cte", "cte , ctelist"],
    "cte": ["NAME AS ( query )"],
    "body": ["meet", "body UNION all meet", "body EXCEPT all meet"],
    "wbody": ["wmeet", "wbody UNION all meet", "wbody EXCEPT all meet"],
    "meet": ["core", "meet INTERSECT all core"],
    "wmeet": ["wcore", "wmeet INTERSECT all core"],
    "all": ["", "ALL"],
    "core": ["wcore", "( query )"],
    "wcore": ["SELECT distinct outs from where group having", "VALUES rows"],
    "distinct": ["", "DISTINCT"],
    "outs": ["*", "outlist"],
    "outlist": ["out", "out , outlist"],
    "out": ["expr", "expr AS NAME", "NAME . *"],
    "from": ["", "FROM sources"],
    "sources": ["source", "source , sources"],
    "source": ["base", "source CROSS JOIN base", "source kind JOIN base ON expr"],
    "kind": ["", "INNER", "LEFT", "RIGHT", "FULL"],
    "base": ["NAME", "NAME NAME", "NAME AS NAME", "( query ) NAME", "( query ) AS NAME"],
    "where": ["", "WHERE expr"],
    "group": ["", "GROUP BY exprs"],
    "having": ["", "HAVING expr"],
    "orders": ["", "ORDER BY items"],
    "items": ["item", "item , items"],
    "item": ["expr dir nulls"],
    "dir": ["", "ASC", "DESC"],
    "nulls": ["", "NULLS FIRST", "NULLS LAST"],
    "limit": ["", "LIMIT NUMBER"],
    "offset": ["", "OFFSET NUMBER"],
    "rows": ["( exprs )", "( exprs ) , rows"],
    "exprs": ["expr", "expr , exprs"],
    "expr": ["both", "expr OR both"],
    "both": ["denial", "both AND denial"],
    "denial": ["NOT denial", "test"],
    "test": ["sum", "sum compare sum", "sum IS not truth", "sum not BETWEEN sum AND sum", "sum not LIKE sum",
             "sum not IN ( worded )", "sum not IN ( exprs )"],
    "compare": ["=", "<>", "<", "<=", ">", ">="],
    "not": ["", "NOT"],
    "truth": ["NULL", "TRUE", "FALSE"],
    "sum": ["product", "sum + product", "sum - product", "sum || product"],
    "product": ["sign", "product * sign", "product / sign"],
    "sign": ["- sign", "atom"],
    "atom": ["NUMBER", "TEXT", "TRUE", "FALSE", "NULL", "NAME", "NAME . NAME", "( expr )", "( worded )",
             "EXISTS ( query )", "CASE whens else END", "call"],
    "whens": ["WHEN expr THEN expr", "WHEN expr THEN expr whens"],
    "else": ["", "ELSE expr"],
    "call": ["NAME ( args )", "NAME ( args ) OVER ( partition orders frame )"],
    "args": ["", "*", "exprs", "DISTINCT exprs"],
    "partition": ["", "PARTITION BY exprs"],
    "frame": ["", "ROWS BETWEEN edge AND edge"],
    "edge": ["UNBOUNDED PRECEDING", "UNBOUNDED FOLLOWING", "CURRENT ROW", "NUMBER PRECEDING", "NUMBER FOLLOWING"],
}
GRAMMAR = {name: [tuple(choice.split()) for choice in choices] for name, choices in RULES.items()}
EMPTY = {name for name, choices in GRAMMAR.items() if () in choices}
WORTHS = {
    "NAME": ["a", "b", "t", "u", "sum", "count", "mod", "abs", "rank", "lit", "start"],
    "NUMBER": ["0", "1", "7", "42"],
    "TEXT": ["'x'", "''", "'it''s'"],
}


def first_misfit(things):
    """The index of the first thing with which things can no longer be continued to a query, or None.

    If they are a query, or only the beginning of one, it is None, or their number.
    """
    sets = [[]]
    seen = [set()]

    def add(at, state):
        if state not in seen[at]:
            seen[at].add(state)
            sets[at].append(state)

    add(0, ("", ("query",), 0, 0))
    for at in range(len(things) + 1):
        sets.append([])
        seen.append(set())
        for state in sets[at]:
            name, choice, dot, start = state
            if dot == len(choice):
                for other in list(sets[start]):
                    if other[2] < len(other[1]) and other[1][other[2]] == name:
                        add(at, (other[0], other[1], other[2] + 1, other[3]))
            elif choice[dot] in GRAMMAR:
                for told in GRAMMAR[choice[dot]]:
                    add(at, (choice[dot], told, 0, at))
                if choice[dot] in EMPTY:
                    add(at, (name, choice, dot + 1, start))
            elif at < len(things) and choice[dot] == things[at]:
                add(at + 1, (name, choice, dot + 1, start))
        if at < len(things) and not sets[at + 1]:
            return at
    return None if ("", ("query",), 1, 0) in seen[len(things)] else len(things)


def shortest():
    """How many rules at least are one in another below each rule."""
    depths = {}
    while len(depths) < len(GRAMMAR):
        for name, choices in GRAMMAR.items():
            told = [1 + max([depths.get(part, 0) for part in choice], default=0) for choice in choices
                    if all(part in depths or part not in GRAMMAR for part in choice)]
            if told:
                depths[name] = min(told)
    return depths


DEPTHS = shortest()


def chance(rng, name="query", budget=40):
    """Things by chance that the rule allows, as texts."""
    if name in WORTHS:
        return [rng.choice(WORTHS[name])]
    if name not in GRAMMAR:
        return [name]
    choices = GRAMMAR[name]

    def depth(choice):
        return max([DEPTHS.get(part, 0) for part in choice], default=0)

    if budget <= DEPTHS[name] + 3:
        least = min(depth(choice) for choice in choices)
        choices = [choice for choice in choices if depth(choice) == least]
    picked = rng.choice(choices)
    return [thing for part in picked for thing in chance(rng, part, budget - 1 - rng.randrange(3))]


def sort_of(thing):
    """The name in the rules of a thing that chance told."""
    if thing[0] == "'":
        return "TEXT"
    if thing.isdigit():
        return "NUMBER"
    return "NAME" if thing[0].islower() else thing
