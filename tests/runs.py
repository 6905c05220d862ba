"""What the tests of running share: segments for tables, other running plans, and a look at the counts."""

from peristyle.meaning import answer, bag
from peristyle.methods import ways
from peristyle.run import run
from peristyle.running import inputs_of, plan_of
from peristyle.sight import sight_of
from peristyle.store import segmented
from peristyle.value import is_fault


def in_segments(tables, packing=0, size=256):
    return {name: (schema, segmented(schema, rows, packing, size)) for name, (schema, rows) in tables.items()}


def with_gone_rows(rng, tables):
    """Segments of a few rows, each among others that are gone; some have nothing but such."""
    found = {}
    for name, (schema, rows) in tables.items():
        segments = []
        for start in range(0, len(rows), 3):
            part = rows[start:start + 3]
            junk = [rng.choice(rows) for _ in range(rng.randrange(4))]
            mixed = [(row, False) for row in part] + [(row, True) for row in junk]
            rng.shuffle(mixed)
            columns, bounds, _ = segmented(schema, [row for row, _ in mixed], rng.randrange(5), 256)[0]
            segments.append((columns, bounds, tuple(place for place, (_, gone) in enumerate(mixed) if gone)))
            if rng.random() < 0.2:
                columns, bounds, _ = segmented(schema, part, rng.randrange(5), 256)[0]
                segments.append((columns, bounds, tuple(range(len(part)))))
        found[name] = (schema, segments)
    return found


def some_way(rng, plan, schemas):
    """A running plan of a plan, its methods by chance."""
    def chosen(sight):
        return rng.choice(ways(sight, [chosen(below) for below in sight.inputs]))

    return chosen(sight_of(plan, {schema[0]: schema for schema in schemas}))


def scans_of(running):
    """The tables that a running plan scans outside of expressions."""
    own = [running[1]] if running[0] == "scan" else []
    return own + [name for below in inputs_of(running) for name in scans_of(below)]


def has_queries(running):
    """Whether a plan stands in an expression."""
    return any("('" + word + "', " in repr(running) for word in ("scalar", "exists", "in"))


def rows_of(running, tables):
    told = bag(plan_of(running), [], tables)
    return None if is_fault(told) else len(told)


def most_taken(running, tables):
    """The most rows in all inputs of an operator; None if one of them fails."""
    inputs = [rows_of(below, tables) for below in inputs_of(running)]
    below = [most_taken(part, tables) for part in inputs_of(running)]
    if None in inputs or None in below:
        return None
    return max([sum(inputs)] + below)


def handed_below(running, tables):
    """How many rows all operators below the topmost one hand on."""
    return sum(rows_of(below, tables) + handed_below(below, tables) for below in inputs_of(running))


KNOWN = {}


def known_of(running, tables):
    """The answer, the most rows that an operator takes, and those handed on below the topmost one."""
    key = (id(tables), repr(running))
    if key not in KNOWN:
        wanted = answer(plan_of(running), tables)
        most = None if has_queries(running) else most_taken(running, tables)
        below = None if most is None else handed_below(running, tables)
        # The tables are kept so that no others get their number.
        KNOWN[key] = (wanted, most, below, tables)
    return KNOWN[key][:3]


def check_run(case, running, tables, segments, **settings):
    """The answer is that of the plan, and the counts may be; tells the counts."""
    wanted, most, below = known_of(running, tables)
    told = run(running, segments, **settings)
    case.assertIs(type(told), tuple)
    case.assertEqual(told[0], wanted, (running, settings))
    case.assertIs(type(told[0]), type(wanted))
    unpacked, skipped, handed, held, spooled = told[1]
    for number in told[1]:
        case.assertIs(type(number), int)
        case.assertGreaterEqual(number, 0)
    budget = settings.get("budget", 1000)
    if "'window'" not in repr(running):
        case.assertLessEqual(held, budget + 1)
    if not has_queries(running):
        case.assertEqual(unpacked + skipped, sum(len(segments[name][1]) for name in scans_of(running)))
        if most is not None:
            if most <= budget:
                case.assertEqual(spooled, 0, (running, settings))
            if not is_fault(wanted):
                case.assertIn(handed, (below, below + len(wanted)), (running, settings))
    return told[1]
