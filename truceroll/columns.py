"""A rule under all facts at once: a whole number that has a bit for each of them."""


class Columns:
    # One look at a number answers for thousands of facts, so that many sets of sayings can be looked at.

    def __init__(self, names):
        self.every = 1
        self.bits = {}
        many = 1
        for name in names:
            # Each facts so far stand for two from now on: with the name False, and higher up with the name True.
            for ahead in list(self.bits):
                self.bits[ahead] = self.bits[ahead] | (self.bits[ahead] << many)
            self.bits[name] = self.every << many
            self.every = self.every | (self.every << many)
            many = 2 * many

    def bits_of(self, rule):
        word = rule[0]
        if word == "yes":
            return self.every
        if word == "no":
            return 0
        if word == "is":
            return self.bits[rule[1]]
        if word == "not":
            return self.every ^ self.bits_of(rule[1])
        return self.bits_of_two(word, self.bits_of(rule[1]), self.bits_of(rule[2]))

    def bits_of_two(self, word, one, other):
        if word == "and":
            return one & other
        if word == "or":
            return one | other
        if word == "then":
            return (self.every ^ one) | other
        return self.every ^ one ^ other

    def bits_of_all(self, rules):
        bits = self.every
        for rule in rules:
            bits = bits & self.bits_of(rule)
        return bits
