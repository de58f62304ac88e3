"""Terms that are tied together: the least ties that those told bring with them, and what each of them rests on.

Terms are numbered as they are taken in. Each tie that joined two lots of terms is kept, with why it came, and they
make paths: of two terms tied there is one path from the one to the other, and each tie on it came later than those
on which it rests.
"""

from allsorts.sayings import inner_things
from allsorts.terms import inner_terms


def head_of(thing):
    """The HEAD of a term or an atom."""
    if thing[0] == "call":
        return ("call", thing[1], thing[3], len(thing[2]))
    count = len(inner_things(thing))
    return thing[:len(thing) - count] + (count,)


class Closure:
    """Terms and their ties; where it is of trees, what stands in two tied nodes, or two tied tips, is tied, too."""

    def __init__(self, is_of_trees):
        self.is_of_trees = is_of_trees
        self.numbers = {}
        self.terms = []
        self.heads = []
        self.places = []
        # Of each term the one by which all tied with it go, and of each of these: who they are, in what terms they
        # stand, and a tip or a node among them.
        self.roots = []
        self.members = []
        self.users = []
        self.built = []
        self.signed = {}
        # What is to be tied yet, from the place `done` on; what was tied; of each term the next one on its path.
        self.todo = []
        self.done = 0
        self.ties = []
        self.links = []
        # A tip and a node that are tied.
        self.mixed = None

    def take(self, term):
        """The number of a term, which is taken in with all that is in it. All are to be, ahead of the first tie."""
        places = tuple([self.take(inner) for inner in inner_terms(term)])
        key = (head_of(term),) + places
        if key in self.numbers:
            return self.numbers[key]
        number = len(self.terms)
        self.numbers[key] = number
        self.signed[key] = number
        self.terms.append(term)
        self.heads.append(key[0])
        self.places.append(places)
        self.roots.append(number)
        self.members.append([number])
        self.users.append([])
        self.built.append(number if term[0] in ("tip", "node") else None)
        self.links.append(None)
        for place in places:
            self.users[place].append(number)
        return number

    def copied(self):
        """Another one of the same terms, that goes on by itself; to be asked ahead of the first tie."""
        other = Closure(self.is_of_trees)
        # Who the terms are isn't changed by any tie, but signed tells of them by their roots.
        other.numbers = self.numbers
        other.terms = self.terms
        other.heads = self.heads
        other.places = self.places
        other.roots = list(self.roots)
        other.members = [[number] for number in self.roots]
        other.users = [list(users) for users in self.users]
        other.built = list(self.built)
        other.signed = {key: self.signed[key] for key in self.signed}
        other.links = [None] * len(self.terms)
        return other

    def number_of(self, term):
        """The number of a term, None if it wasn't taken in."""
        places = [self.number_of(inner) for inner in inner_terms(term)]
        return self.numbers.get((head_of(term),) + tuple(places), None)

    def tell(self, one, other, number):
        """Has two terms tied, as the literal of that number tells."""
        self.todo.append((one, other, ("told", number)))

    def settle(self):
        """Ties what is to be tied, and all that comes by it."""
        while self.done < len(self.todo):
            one, other, why = self.todo[self.done]
            self.done += 1
            if self.roots[one] != self.roots[other]:
                self.ties.append((one, other, why))
                if len(self.members[self.roots[one]]) > len(self.members[self.roots[other]]):
                    one, other = other, one
                self.link(one, other)
                self.unite(self.roots[one], self.roots[other])

    def link(self, one, other):
        """Turns the path of the one about, so that it starts there, and leads it on to the other by the last tie."""
        step = (other, len(self.ties) - 1)
        number = one
        while number is not None:
            before = self.links[number]
            self.links[number] = step
            if before is None:
                number = None
            else:
                step = (number, before[1])
                number = before[0]

    def unite(self, small, large):
        """Lets all that go by the one root go by the other."""
        for member in self.members[small]:
            self.roots[member] = large
        self.members[large].extend(self.members[small])
        for user in self.users[small]:
            key = (self.heads[user],) + tuple([self.roots[place] for place in self.places[user]])
            found = self.signed.setdefault(key, user)
            if self.roots[found] != self.roots[user]:
                self.todo.append((user, found, ("within",)))
        self.users[large].extend(self.users[small])
        if self.is_of_trees:
            self.unite_built(small, large)

    def unite_built(self, small, large):
        """As unite, of what tips and nodes ask for."""
        one = self.built[small]
        other = self.built[large]
        if other is None:
            self.built[large] = one
        elif one is not None and self.heads[one] != self.heads[other]:
            self.mixed = (one, other) if self.mixed is None else self.mixed
        elif one is not None:
            for at, place in enumerate(self.places[one]):
                self.todo.append((place, self.places[other][at], ("inner", one, other, at)))

    def are_tied(self, one, other):
        """Whether two terms, by their numbers, are tied."""
        return self.roots[one] == self.roots[other]

    def up(self, number):
        """The steps from a term to the end of its path, each as (from, to, number of the tie)."""
        steps = []
        while self.links[number] is not None:
            to, tie = self.links[number]
            steps.append((number, to, tie))
            number = to
        return steps

    def path(self, one, other):
        """The steps from a term to another one that is tied with it."""
        ahead = self.up(one)
        back = self.up(other)
        # What both go on by isn't needed.
        while len(ahead) > 0 and len(back) > 0 and ahead[-1] == back[-1]:
            ahead.pop()
            back.pop()
        return ahead + [(to, start, tie) for start, to, tie in reversed(back)]

    def rests_on(self, tie):
        """The pairs of terms that must be tied for a tie."""
        one, other, why = self.ties[tie]
        if why[0] == "told":
            return []
        if why[0] == "inner":
            return [(why[1], why[2])]
        return list(zip(self.places[one], self.places[other]))

    def needed(self, pairs):
        """The numbers of all ties that these pairs of tied terms rest on, rising."""
        found = {}
        todo = list(pairs)
        while len(todo) > 0:
            one, other = todo.pop()
            for _, _, tie in self.path(one, other):
                if tie not in found:
                    found[tie] = True
                    todo.extend(self.rests_on(tie))
        return sorted(found)

    def told_for(self, pairs):
        """The numbers of all literals by which these pairs are tied."""
        whys = [self.ties[tie][2] for tie in self.needed(pairs)]
        return [why[1] for why in whys if why[0] == "told"]


class ChainMaker:
    """Makes the rows of a CHAIN of what a closure has tied."""

    def __init__(self, closure, told):
        """`told` has for the number of each literal that was told to the closure its number in the LOT."""
        self.closure = closure
        self.told = told
        self.rows = []
        self.known = {}

    def put(self, one, other, why):
        """The number of one row more."""
        self.known[(one, other)] = len(self.rows)
        self.rows.append((self.closure.terms[one], self.closure.terms[other], why))
        return len(self.rows) - 1

    def step(self, one, other):
        """The number of a row of two terms that were tied straight."""
        if (one, other) in self.known:
            return self.known[(one, other)]
        return self.put(one, other, ("turned", self.known[(other, one)]))

    def row_of(self, one, other):
        """The number of a row of two terms, all ties between which have a row."""
        if (one, other) in self.known:
            return self.known[(one, other)]
        if one == other:
            return self.put(one, other, ("itself",))
        last = None
        for start, to, _ in self.closure.path(one, other):
            step = self.step(start, to)
            if last is None:
                last = step
            elif (one, to) in self.known:
                last = self.known[(one, to)]
            else:
                last = self.put(one, to, ("through", last, step))
        return last

    def put_tie(self, tie):
        """One row more, of a tie all of which it rests on has rows."""
        one, other, why = self.closure.ties[tie]
        if why[0] == "told":
            self.put(one, other, ("told", self.told[why[1]]))
        elif why[0] == "inner":
            self.put(one, other, ("inner", self.row_of(why[1], why[2]), why[3]))
        else:
            rows = [self.row_of(first, second) for first, second in self.closure.rests_on(tie)]
            self.put(one, other, ("within", tuple(rows)))

    def rows_of(self, pairs):
        """The numbers of rows of these pairs, in order, as a tuple, once there is a row of each tie they need."""
        for tie in self.closure.needed(pairs):
            self.put_tie(tie)
        return tuple([self.row_of(one, other) for one, other in pairs])

    def chain(self):
        """The CHAIN of all rows."""
        return tuple(self.rows)
