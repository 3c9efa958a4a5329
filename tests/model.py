"""A slow model of a store: single pieces, single steps, all valid splits.

It shares no code with the package, so that the tests compare two programs.
"""

import random
import re


class Model:
    """Whole pieces and splits of each kind, changed one step at a time."""

    def __init__(self, catalogue, stock, splits=None):
        self.weights = {name: weight for name, weight, parts in catalogue}
        self.parts = {name: list(parts) for name, weight, parts in catalogue}
        self.order = sorted(self.weights, key=lambda name: (-self.weights[name], name))
        self.whole = {name: stock.get(name, 0) for name in self.order}
        self.splits = {name: 0 for name in self.order}
        for name in self.order:
            for _ in range((splits or {}).get(name, 0)):
                self.split_kind(name)

    def split_kind(self, name):
        assert self.whole[name] > 0 and self.parts[name]
        self.whole[name] -= 1
        self.splits[name] += 1
        for part in self.parts[name]:
            self.whole[part] += 1

    def undo_kind(self, name):
        assert self.splits[name] > 0
        self.splits[name] -= 1
        self.whole[name] += 1
        for part in self.parts[name]:
            self.whole[part] -= 1
            assert self.whole[part] >= 0

    def can_split(self):
        return [name for name in self.order if self.parts[name] and self.whole[name] > 0]

    def can_undo(self):
        return [name for name in self.order if self.splits[name] > 0]

    def next_split(self):
        return (self.can_split() or [None])[0]

    def next_undo(self):
        return (self.can_undo() or [None])[-1]

    def split(self):
        self.split_kind(self.next_split())

    def undo(self):
        self.undo_kind(self.next_undo())

    def number(self):
        return sum(self.splits.values())

    def heaviest(self):
        return max([self.weights[name] for name in self.order if self.whole[name]], default=None)

    def pieces(self):
        return {name: self.whole[name] + self.splits[name] for name in self.order}

    def tidy(self, numbers):
        return {name: numbers[name] for name in self.order if numbers[name]}


def model_total(catalogue, stock):
    """The total, by splitting any piece until nothing can be split."""
    model = Model(catalogue, stock)
    while model.can_split():
        model.split_kind(model.can_split()[-1])
    return model.number()


def model_balanced(catalogue, stock, number):
    """The model after this number of split steps from no splits."""
    model = Model(catalogue, stock)
    for _ in range(number):
        model.split()
    return model


def all_splits(catalogue, stock):
    """All valid splits, without zeros, by splitting any whole piece from no splits on."""
    found = [{}]
    for splits in found:
        for name in Model(catalogue, stock, splits).can_split():
            more = dict(splits)
            more[name] = more.get(name, 0) + 1
            if more not in found:
                found.append(more)
    return found


def random_catalogue(rng, size):
    """A catalogue in any order, often with equal weights and repeated parts."""
    names = rng.sample(["a", "b", "c", "d", "e", "ab", "ba", "zz", "longname"], size)
    weights = {name: rng.randint(1, 9) for name in names}
    entries = []
    for name in names:
        smaller = [part for part in names if weights[part] < weights[name]]
        many = rng.randint(0, 3) if smaller and rng.random() < 0.8 else 0
        entries.append((name, weights[name], [rng.choice(smaller) for _ in range(many)]))
    return entries


def random_stock(rng, catalogue, most=3):
    """Numbers for some of the kinds, zeros included."""
    names = [entry[0] for entry in catalogue if rng.random() < 0.7]
    return {name: rng.randint(0, most) for name in names}


def random_splits(rng, catalogue, stock):
    """Valid splits, made by splitting any whole pieces."""
    model = Model(catalogue, stock)
    for _ in range(rng.randint(0, 12)):
        if model.can_split():
            model.split_kind(rng.choice(model.can_split()))
    return {name: many for name, many in model.splits.items() if many or rng.random() < 0.3}


def small_cases(seed, count, limit):
    """Random (catalogue, stock) with a total of at most the limit, few of them with 0."""
    rng = random.Random(seed)
    cases = []
    while len(cases) < count:
        catalogue = random_catalogue(rng, rng.randint(1, 6))
        stock = random_stock(rng, catalogue)
        total = model_total(catalogue, stock)
        if 0 < total <= limit or (total == 0 and rng.random() < 0.05):
            cases.append((catalogue, stock))
    return cases


def single_steps(catalogue, stock, splits):
    """The possible single steps, each with the splits behind it: (kind of step, name, splits)."""
    found = []
    for name, weight, parts in catalogue:
        model = Model(catalogue, stock, splits)
        if parts and model.whole[name] > 0:
            model.split_kind(name)
            found.append(("split", name, model.tidy(model.splits)))
        model = Model(catalogue, stock, splits)
        if model.splits[name] > 0 and all(model.whole[part] >= parts.count(part) for part in parts):
            model.undo_kind(name)
            found.append(("undo", name, model.tidy(model.splits)))
    return found


def as_key(splits):
    """Splits as a key of a dict."""
    return tuple(sorted((name, number) for name, number in splits.items() if number))


def step_graph(catalogue, stock):
    """All valid splits by their keys, and for each key those behind a single step."""
    by_key = {as_key(splits): splits for splits in all_splits(catalogue, stock)}
    graph = {}
    for key, splits in by_key.items():
        graph[key] = [as_key(after) for _, _, after in single_steps(catalogue, stock, splits)]
    return by_key, graph


def search(graph, start):
    """For each key the smallest number of steps from the start, and how many such ways there are."""
    far, ways, layer = {start: 0}, {start: 1}, [start]
    while layer:
        later = []
        for key in layer:
            for after in graph[key]:
                if after not in far:
                    far[after] = far[key] + 1
                    ways[after] = 0
                    later.append(after)
                if far[after] == far[key] + 1:
                    ways[after] += ways[key]
        layer = later
    return far, ways


def model_is_catalogue(catalogue):
    """Whether a list of entries is a valid catalogue, point [4] word by word."""
    if not catalogue:
        return False
    names = [entry[0] for entry in catalogue]
    for at, (name, weight, parts) in enumerate(catalogue):
        if not 1 <= len(name) <= 8 or set(name) - set("abcdefghijklmnopqrstuvwxyz"):
            return False
        if name in names[:at] or weight < 1:
            return False
        for part in parts:
            if part not in names or catalogue[names.index(part)][1] >= weight:
                return False
    return True


def model_read_numbers(text):
    """The dict of numbers that has this text, or None; by patterns."""
    if text == "-":
        return {}
    if not re.fullmatch("[a-z]{1,8}:[1-9][0-9]{0,59}( [a-z]{1,8}:[1-9][0-9]{0,59})*", text):
        return None
    pairs = re.findall("([a-z]+):([0-9]+)", text)
    names = [name for name, digits in pairs]
    if names != sorted(set(names)):
        return None
    return {name: int(digits) for name, digits in pairs}


def model_read_catalogue(text):
    """The valid catalogue that has this text, or None; by patterns."""
    entry = "[a-z]{1,8} [1-9][0-9]{0,59}( [a-z]{1,8})*"
    if not re.fullmatch(f"{entry}(, {entry})*", text):
        return None
    catalogue = []
    for name, digits, parts in re.findall("([a-z]+) ([0-9]+)((?: [a-z]+)*)", text):
        catalogue.append((name, int(digits), parts.split()))
    return catalogue if model_is_catalogue(catalogue) else None
