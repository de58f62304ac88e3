"""Plain looks at what is decided: at a "yes" by the points of the document, at a PAPER row by row."""

from allsorts.clauses import clause_of, clauses_of, is_clause, opposed, turned_right
from allsorts.parts import parts_here
from allsorts.sayings import is_atom, terms_of
from allsorts.terms import is_name, parts_of, sort_of
from allsorts.ties import is_lot
from allsorts.values import Model


def look_at_yes(test, sayings, told, more=()):
    """Fails the test where what is told as "yes" isn't so."""
    test.assertIs(type(told), tuple)
    word, model, literals = told
    test.assertEqual(word, "yes")
    test.assertIs(type(model), Model)
    test.assertEqual(Model(model.names(), calls=model.calls(), props=model.props()), model)
    for saying in sayings:
        test.assertIs(model.holds(saying), True)
    sorts = {term[1]: term[2] for saying in sayings for term in terms_of(saying) if term[0] == "name"}
    for name, sort, _ in model.names():
        test.assertEqual(sorts.get(name, sort), sort)
    test.assertIs(is_clause(literals), True)
    there = set(literals)
    for literal in literals:
        test.assertNotIn(opposed(literal), there)
        if literal[0][0] != "part":
            test.assertIs(model.holds(literal[0]), literal[1])
    signs = {sign for sign, _ in literals}
    for clause in clauses_of(sayings):
        test.assertTrue(there & set(clause))
        test.assertTrue({sign for sign, _ in clause} <= signs)
    lot = tuple(literal for literal in literals if literal[0][0] != "part")
    for _, _, refute, _ in parts_here():
        test.assertIsNone(refute(lot))
    own = {term for saying in sayings for term in terms_of(saying)}
    lot = tuple(literal for literal in lot if set(terms_of(literal[0])) <= own)
    for _, _, refute, _ in more:
        test.assertIsNone(refute(lot))


def plain_clashes(clauses, literals):
    """Whether literals clash at once, by going round over all clauses."""
    there = set(literals)
    while not any(opposed(literal) in there for literal in there):
        came = False
        for clause in clauses:
            left = [literal for literal in clause if opposed(literal) not in there]
            if not left:
                return True
            if len(left) == 1 and left[0] not in there:
                there.add(left[0])
                came = True
        if not came:
            return False
    return True


def names_in(terms):
    return {part[1] for term in terms for part in parts_of(term) if part[0] == "name"}


def plain_apart(sayings, paper, at, words):
    """Whether a row ("apart", NAME) is so."""
    clause, (_, name) = paper[at]
    if not is_name(name):
        return False
    pairs = {}
    for number, row in enumerate(paper):
        if row[1][0] == "apart":
            pairs[number] = pair_of(row)
    if pairs[at] is None or name in names_in(term for saying in sayings for term in terms_of(saying)):
        return False
    own = [number for number in pairs if paper[number][1][1] == name]
    ahead = [number for number in pairs if number < own[0]]
    if any(pairs[number] != pairs[at] for number in own if number <= at) or name in names_in(pairs[at]):
        return False
    if any(pairs[number] is not None and name in names_in(pairs[number]) for number in ahead):
        return False
    outside = [atom for row in paper if row[1][0] in words for atom, _ in row[0] if atom[0] != "part"]
    return name not in names_in(term for atom in outside for term in terms_of(atom))


def pair_of(row):
    """The two sets of a row ("apart", NAME), None if its CLAUSE isn't one for any two."""
    clause, (_, name) = row
    sames = [atom for atom, truth in clause if atom[0] == "same" and truth and sort_of(atom[1]) == "set"]
    for atom in sames if is_name(name) else []:
        ins = [("in", ("name", name, "num"), where) for where in atom[1:]]
        for truth in (True, False):
            if clause == clause_of([(turned_right(atom), True)] + [(one, truth) for one in ins]):
                return atom[1:]
    return None


def plain_paper(sayings, paper, more=()):
    """Whether anything is a PAPER that comes out."""
    if type(paper) is not tuple or not paper:
        return False
    for row in paper:
        if type(row) is not tuple or len(row) != 2 or not is_clause(row[0]) or type(row[1]) is not tuple:
            return False
        if not row[1] or type(row[1][0]) is not str or len(row[1]) != (1 if row[1][0] in ("say", "rows") else 2):
            return False
    looks = {word: look for word, _, _, look in parts_here() + tuple(more)}
    said = clauses_of(sayings)
    for at, (clause, why) in enumerate(paper):
        against = tuple(opposed(literal) for literal in clause)
        if why[0] == "say":
            is_so = clause in said
        elif why[0] == "rows":
            is_so = plain_clashes([row[0] for row in paper[:at]], against)
        elif why[0] == "apart":
            is_so = plain_apart(sayings, paper, at, [word for word, _, _, _ in more])
        else:
            is_so = why[0] in looks and is_lot(against) and looks[why[0]](against, why[1]) is True
        if not is_so:
            return False
    return paper[-1][0] == ()


def atoms_in(paper):
    """All atoms in the rows of a paper."""
    return {sign for clause, _ in paper for sign, _ in clause if is_atom(sign)}
