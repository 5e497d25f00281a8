"""Races and papers of calm by points [10] and [17] to [19], each word by word from what the plain serial run tells."""

from tests.model import Model


class Traces:
    """The deeds of the serial run in their order, what is ahead of what, and what each touches."""

    def __init__(self, program, words):
        model = Model(program, words)
        self.names = model.names
        self.touches = model.touches
        self.before = {}
        for name in model.names:
            self.before[name] = set(model.behind[name]).union(*[self.before[ahead] for ahead in model.behind[name]])

    def touched(self, name):
        read, changed, joined = self.touches[name]
        return {*read, *changed, *[word for word, _ in joined]}

    def words(self):
        return sorted({word for name in self.names for word in self.touched(name)})

    def bear_in(self, d, e, word):
        for one, other in ((d, e), (e, d)):
            read, changed, joined = self.touches[one]
            if word in changed and word in self.touched(other):
                return False
            if word in [name for name, _ in joined] and word in self.touches[other][0]:
                return False
        ops = [op for name in (d, e) for word_joined, op in self.touches[name][2] if word_joined == word]
        return len(set(ops)) < 2

    def races(self):
        found = []
        for at, e in enumerate(self.names):
            for d in self.names[:at]:
                wrong = [word for word in self.words() if not self.bear_in(d, e, word)]
                if wrong and d not in self.before[e]:
                    found.append((d, e, wrong[0]))
        return tuple(found)

    def holds(self, paper):
        """Whether this is a calm paper, for what has the form of one."""
        if [word for word, _ in paper] != self.words():
            return False
        for word, groups in paper:
            told = [name for group in groups for name in group]
            if sorted(told) != sorted([name for name in self.names if word in self.touched(name)]):
                return False
            if not all(groups) or any([sorted(group, key=self.names.index) != list(group) for group in groups]):
                return False
            if not all([self.bear_in(d, e, word) for group in groups for d in group for e in group if d != e]):
                return False
            for group, later in zip(groups, groups[1:]):
                if not all([d in self.before[e] for d in group for e in later]):
                    return False
        return True
