"""Tame pools that are drawn for tests."""

SCHEMA = (("day", 1, ()), ("note", 1, ()), ("way", 2, ()))


def drawn_store(chance, values=(1, 2, "a")):
    """A store with some days and ways."""
    facts = [("day", (value,)) for value in values if chance.random() < 0.8]
    facts += [("way", (one, other)) for one in values for other in values if chance.random() < 0.5]
    return (SCHEMA, tuple(facts))


def drawn_wish(chance, own, others, values=(1, 2, "a")):
    """A wish that says the words own, and wants some of the words of others."""
    patterns = []
    for _ in range(chance.choice((1, 1, 2, 3))):
        width = chance.choice((1, 2))
        terms = [chance.choice(("?x", "?y", "?z", "?y", "?x", chance.choice(values))) for _ in range(width)]
        patterns.append((("day", "way")[width - 1], tuple(terms)))
    variables = sorted({term for _, pattern in patterns for term in pattern if str(term)[0] == "?"})
    terms = variables * 3 + list(values)
    tests = [(chance.choice(("=", "!=", "<")), chance.choice(terms), chance.choice(terms))
             for _ in range(chance.choice((0, 0, 1, 2)))]

    def spoken(words):
        return tuple((word, tuple(chance.choice(terms) for _ in range(2))) for word in words)

    wants = [chance.choice(others) for _ in range(chance.choice((0, 1, 1, 1, 2)))] if others else []
    writes = tuple(("in", "note", (chance.choice(terms),)) for _ in range(chance.choice((0, 1))))
    return ((tuple(patterns), tuple(tests)), spoken(own), spoken(wants), writes)


def drawn_pool(chance, many):
    """A pool of so many wishes; each says a word of its own, so it is tame."""
    words = ["a", "b", "c", "d", "e", "f", "g", "h"][:many]
    pool = []
    for number, word in enumerate(words):
        others = [other for other in words if other != word]
        near = others[number:number + 2] or others
        pool.append((3 * number + chance.choice((0, 1)), drawn_wish(chance, [word] * chance.choice((1, 1, 1, 2)), near)))
    return tuple(pool)
