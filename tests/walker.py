"""A second way to do runs, to compare with: it walks through the blocks themselves, lasts too.

It shares no code with the package. A step is counted where the package
counts one; a last counts as what plain makes of it.
"""


class Raised(Exception):
    """A word that is raised."""


class Returned(Exception):
    """A value that is returned."""


class Stopped(Exception):
    """Too many steps."""


class Walker:
    def __init__(self, program, shared, choose, most):
        self.classes, self.functions = program.classes, program.functions
        self.names = sorted(program.shared)
        self.shared = dict(zip(self.names, shared))
        self.choose, self.most = choose, most
        self.price = self.steps = 0
        self.answers = []

    def run(self, function, arguments):
        """The end of the call."""
        try:
            end = ("value", self.call(function, arguments))
        except Raised as raised:
            end = ("error", raised.args[0])
        return (*end, tuple(self.shared[name] for name in self.names))

    def tick(self):
        self.steps += 1
        if self.steps > self.most:
            raise Stopped

    def family(self, name):
        while name is not None:
            yield name
            name = self.classes[name][0]

    def fields(self, name):
        return [field for one in reversed(list(self.family(name))) for field in self.classes[one][2]]

    def level(self, value):
        if isinstance(value, str):
            return 0
        return {"row": lambda: 1, "thing": lambda: self.classes[value[1]][1],
                "kept": lambda: self.functions[value[1]][1]}[value[0]]()

    def check(self, holds, word):
        if not holds:
            raise Raised(word)

    def call(self, function, arguments):
        parameters, _, block = self.functions[function]
        self.check(len(parameters) == len(arguments), "count")
        try:
            self.block(block, dict(zip(parameters, arguments)))
            self.tick()
            return "none"
        except Returned as returned:
            return returned.args[0]

    def value(self, own, expression):
        if isinstance(expression, tuple):
            return expression[0]
        for names in (own, self.shared):
            if expression in names:
                return names[expression]
        raise Raised("unset")

    def holds(self, own, test):
        if test[0] == "not":
            return not self.holds(own, test[1])
        value = self.value(own, test[1])
        if test[0] == "same":
            return value == self.value(own, test[2])
        if isinstance(value, str):
            return test[2] == "word"
        return test[2] in self.family(value[1]) if value[0] == "thing" else test[2] == value[0]

    def block(self, block, own):
        for statement in block:
            self.tick()
            getattr(self, "do_" + statement[0])(own, *statement[1:])

    def do_set(self, own, x, e):
        own[x] = self.value(own, e)

    def do_share(self, own, x, e):
        value = self.value(own, e)
        self.check(self.level(value) < 2, "deep")
        self.shared[x] = value

    def do_pay(self, own, n):
        self.price += n

    def do_ask(self, own, x, words):
        own[x] = self.choose(words)
        self.answers.append(own[x])

    def do_if(self, own, test, first, second):
        self.block(first if self.holds(own, test) else second, own)

    def do_loop(self, own, test, block):
        while self.holds(own, test):
            self.block(block, own)
            self.tick()

    def do_return(self, own, e):
        raise Returned(self.value(own, e))

    def do_raise(self, own, e):
        word = self.value(own, e)
        raise Raised(word if isinstance(word, str) else "kind")

    def do_try(self, own, first, x, second):
        try:
            self.block(first, own)
        except Raised as raised:
            own[x] = raised.args[0]
        else:
            return
        self.block(second, own)

    def do_last(self, own, first, second):
        try:
            self.block(first, own)
            word = None
        except Raised as raised:
            word = raised.args[0]
        self.block(second, own)
        if word is not None:
            self.tick()
            raise Raised(word)

    def values(self, own, es):
        return [self.value(own, e) for e in es]

    def do_call(self, own, x, function, es):
        own[x] = self.call(function, self.values(own, es))

    def do_apply(self, own, x, e, es):
        kept, *values = self.values(own, (e, *es))
        self.check(kept[0] == "kept", "kind")
        own[x] = self.call(kept[1], [*kept[2], *values])

    def do_send(self, own, x, e, method, es):
        thing, *values = self.values(own, (e, *es))
        self.check(thing[0] == "thing", "kind")
        for name in self.family(thing[1]):
            if method in self.classes[name][3]:
                own[x] = self.call(self.classes[name][3][method], [thing, *values])
                return
        raise Raised("method")

    def do_new(self, own, x, name, es):
        values = self.values(own, es)
        self.check(len(values) == len(self.fields(name)), "count")
        self.check(all(self.level(value) < self.classes[name][1] for value in values), "deep")
        own[x] = ("thing", name, tuple(values))

    def do_keep(self, own, x, function, es):
        values = self.values(own, es)
        self.check(len(values) <= len(self.functions[function][0]), "count")
        self.check(all(self.level(value) < self.functions[function][1] for value in values), "deep")
        own[x] = ("kept", function, tuple(values))

    def do_get(self, own, x, e, field):
        thing = self.value(own, e)
        self.check(thing[0] == "thing", "kind")
        held = dict(zip(self.fields(thing[1]), thing[2]))
        self.check(field in held, "field")
        own[x] = held[field]

    def do_with(self, own, x, e, field, other):
        thing, value = self.values(own, (e, other))
        self.check(thing[0] == "thing", "kind")
        held = dict(zip(self.fields(thing[1]), thing[2]))
        self.check(field in held, "field")
        self.check(self.level(value) < self.classes[thing[1]][1], "deep")
        own[x] = ("thing", thing[1], tuple({**held, field: value}.values()))

    def do_push(self, own, x, e, other):
        row, word = self.values(own, (e, other))
        words = () if row == "none" else row[1] if row[0] == "row" else None
        self.check(words is not None and isinstance(word, str), "kind")
        self.check(len(words) < 3, "full")
        own[x] = ("row", (*words, word))

    def do_pop(self, own, x, e):
        row = self.value(own, e)
        self.check(row[0] == "row", "kind")
        self.check(row[1], "empty")
        own[x] = ("row", row[1][:-1])
