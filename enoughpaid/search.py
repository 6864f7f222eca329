"""Finds all tallies that expressions have, each with its least expression."""

ROOT = 0

# What a letter weighs, and what a starred part weighs more than the expression in its brackets. By stars, the order of
# weights is that of the document. By letters, expressions with stars do not have to wait for all that have fewer.
BY_STARS = ((0, 1), (1, 0))
BY_LETTERS = ((1, 1), (0, 3))


class Search:
    """Finds the packed tallies of expressions in the order of their least expressions.

    An expression is weighed by its starred parts and its letters, and those of the same weight have the same length;
    so of two expressions the lesser one stays so if the same stands ahead of both or behind both. Therefore a least
    expression is least, too, without its first part and without its last one, and nothing else has to be tried. The
    least expressions are numbered as they are found; the number ROOT is that of no parts at all.
    """

    def __init__(self, packing, letters, weights):
        letter_weight, star_weight = weights
        self.held_packing = packing
        self.held_star = star_weight
        self.found = {}
        self.tallies = [()]
        self.texts = [""]
        self.weights = [(0, 0)]
        # The expression without its first part; with one more part behind, by this part; with one more ahead.
        self.tails = [ROOT]
        self.longer_behind = [{}]
        self.longer_ahead = [[]]
        # For the expressions of one part: the rows that have been put ahead of its tally, with what this gave.
        self.tables = {}
        # The least expression seen so far of each tally that is not found yet, and these tallies by weight.
        self.seen = {}
        self.due = {}
        for letter, tally in letters:
            self.offer(tally, letter_weight, letter, (ROOT, None))

    def first(self, is_wanted):
        """Find tallies until one is wanted, and return the number of its expression, None if there is none."""
        while self.due:
            wanted = [number for number in self.next_found() if is_wanted(self.tallies[number])]
            if wanted:
                return wanted[0]
        return None

    def find_all(self):
        """Find all tallies."""
        while self.due:
            self.next_found()

    def next_found(self):
        """Find the tallies with the least weight not yet reached, and return the numbers of their expressions."""
        weight = min(list(self.due))
        ready = [(self.seen[tally][1], tally) for tally in self.due.pop(weight) if self.is_due(tally, weight)]
        return [self.accept(tally) for text, tally in sorted(ready)]

    def is_due(self, tally, weight):
        """Tell whether the least expression of a tally has this weight."""
        return tally in self.seen and self.seen[tally][0] == weight

    def offer(self, tally, weight, text, parts):
        """Take note of an expression for a tally that is not found yet.

        Its parts are two numbers, of the expression without its last part and of this part; the latter is None if the
        expression is one part and so has no number yet.
        """
        if tally not in self.seen or weight < self.seen[tally][0]:
            self.due.setdefault(weight, []).append(tally)
            self.seen[tally] = (weight, text, parts)
        elif (weight, text) < self.seen[tally][:2]:
            self.seen[tally] = (weight, text, parts)

    def accept(self, tally):
        """Give the least expression of a tally a number, offer all that it makes longer, and return the number."""
        weight, text, parts = self.seen.pop(tally)
        number = len(self.tallies)
        front, last = parts
        self.found[tally] = number
        self.tallies.append(tally)
        self.texts.append(text)
        self.weights.append(weight)
        self.longer_behind.append({})
        self.longer_ahead.append([])
        if last is None:
            last = number
            self.tables[number] = {}
            self.tails.append(ROOT)
        else:
            self.tails.append(self.longer_behind[self.tails[front]][last])
        self.offer_starred(number)
        self.offer_longer(number, front, last)
        return number

    def offer_starred(self, number):
        """Offer the starred part that has this expression in its brackets, if it has a tally."""
        if not self.held_packing.is_settled(self.tallies[number]):
            return
        tally = self.held_packing.repeated(self.tallies[number])
        if tally not in self.found:
            self.offer(tally, added(self.weights[number], self.held_star), f"({self.texts[number]})*", (ROOT, None))

    def offer_longer(self, number, front, last):
        """Offer the expressions with one part more that end or begin with this one and are least without it."""
        self.longer_behind[front][last] = number
        for part in self.longer_behind[self.tails[number]]:
            self.offer_behind(number, part)
        for other in self.longer_ahead[front]:
            self.offer_behind(other, last)
        # Not before: an expression that overlaps itself has been offered by the first loop.
        self.longer_ahead[self.tails[number]].append(number)

    def offer_behind(self, number, part):
        """Offer an expression with a part put behind it."""
        tally = self.behind(self.tallies[number], part)
        # Most tallies have been found long before.
        if tally not in self.found:
            weight = added(self.weights[number], self.weights[part])
            self.offer(tally, weight, self.texts[number] + self.texts[part], (number, part))

    def behind(self, tally, part):
        """Return a tally with that of a part put behind it."""
        table = self.tables[part]
        return tuple([table[row] if row in table else self.fill(table, row, part) for row in tally])

    def fill(self, table, row, part):
        """Return a row with the tally of a part put behind it, and keep it in the table of this part."""
        table[row] = self.held_packing.row_behind(row, self.tallies[part])
        return table[row]

    def parts(self):
        """Return the numbers of the expressions of one part that have been found."""
        return list(self.longer_behind[ROOT])


def added(weight, other):
    """Return the sum of two weights."""
    return (weight[0] + other[0], weight[1] + other[1])
