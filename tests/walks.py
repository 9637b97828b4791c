"""The walks of a source (its for loops and comprehensions) and those that may change what they walk."""

import ast

CHANGING = ("append", "clear", "extend", "insert", "pop", "remove", "reverse", "setdefault", "update", "sort",
            "add", "discard")
THROUGH = ("enumerate", "zip", "reversed")
VIEWS = ("items", "keys", "values")
OF_ITEMS = ("get", "setdefault", "pop")
COMPREHENSIONS = (ast.ListComp, ast.SetComp, ast.DictComp, ast.GeneratorExp)


def called(node):
    """Return the name of the function or the method that a call names, else None."""
    if not isinstance(node, ast.Call):
        return None
    return getattr(node.func, "id", getattr(node.func, "attr", None))


def passed(call):
    """Return the values that a call passes, first the object of a method."""
    owner = [call.func.value] if isinstance(call.func, ast.Attribute) else []
    return owner + call.args + [word.value for word in call.keywords]


def all_things(values):
    """Return what one of the values may be."""
    return [thing for value in values for thing in things(value)]


def things(value):
    """Return what a value may be: names, fields of any object (".rows") and items of these ("rows[]").

    A new list, as list(rows) and rows[1:] are, is none of them.
    """
    if isinstance(value, ast.Name):
        return [value.id]
    if isinstance(value, ast.Attribute):
        return [f".{value.attr}"]
    if isinstance(value, ast.Subscript) and not isinstance(value.slice, ast.Slice):
        return [f"{thing}[]" for thing in things(value.value)]
    if isinstance(value, ast.IfExp):
        return all_things([value.body, value.orelse])
    if isinstance(value, ast.BoolOp):
        return all_things(value.values)
    if called(value) in THROUGH:
        return all_things(value.args)
    if called(value) in VIEWS:
        return all_things(passed(value)[:1])
    if called(value) in OF_ITEMS:
        return [f"{thing}[]" for thing in all_things(passed(value)[:1])] + all_things(value.args[1:])
    return []


def couples(target, value, items=""):
    """Return the couples of things that become one when the value, or an item of it, is given to the target."""
    if not isinstance(target, (ast.Tuple, ast.List)):
        return [(thing, other + items) for thing in things(target) for other in things(value)]
    if items == "" and isinstance(value, (ast.Tuple, ast.List)):
        return [couple for part, worth in zip(target.elts, value.elts) for couple in couples(part, worth)]
    return [couple for part in target.elts for couple in couples(part, value, items + "[]")]


def couples_of(function):
    """Return the couples of things that a statement of the function makes one."""
    found = []
    for node in ast.walk(function):
        if isinstance(node, ast.Assign):
            found += [couple for target in node.targets for couple in couples(target, node.value)]
        elif isinstance(node, (ast.For, ast.comprehension)):
            found += couples(node.target, node.iter, "[]")
    return found


class Names:
    """Which things of a function may be the same, whatever the order of its statements is."""

    def __init__(self, function):
        self.heads = {}
        found = couples_of(function)
        grown = True
        while grown:
            grown = False
            for couple in found:
                # The one with more items goes behind the other, so that no row of heads comes back to itself.
                first, second = sorted([self.head(thing) for thing in couple], key=lambda thing: thing.count("[]"))
                if first != second:
                    self.heads[second] = first
                    grown = True

    def head(self, thing):
        """Return the one thing that stands for all that may be the same as this one."""
        if thing.endswith("[]"):
            thing = self.head(thing[:-2]) + "[]"
        return self.head(self.heads[thing]) if thing in self.heads else thing


def changed(parts, changers):
    """Return the things that some parts of a source change, also by calls of functions that change something."""
    found = []
    for node in [node for part in parts for node in ast.walk(part)]:
        if isinstance(node, ast.Subscript) and isinstance(node.ctx, (ast.Store, ast.Del)):
            found += things(node.value)
        elif isinstance(node, ast.AugAssign):
            found += things(node.target)
        elif isinstance(node, ast.Call) and isinstance(node.func, ast.Attribute) and node.func.attr in CHANGING:
            found += things(node.func.value)
        elif called(node) in changers:
            found += all_things(passed(node)) + changers[called(node)]
    return found


def walks(function):
    """Return the walks of a function: the line, the value that is walked, and the parts that run meanwhile."""
    found = []
    for node in ast.walk(function):
        if isinstance(node, ast.For):
            found.append((node.lineno, node.iter, node.body))
        elif isinstance(node, COMPREHENSIONS):
            found += [(node.lineno, part.iter, [node]) for part in node.generators]
    return found


def fields_of(found):
    """Return those of the things that are fields, each once."""
    return sorted({thing for thing in found if thing.startswith(".")})


def functions_of(trees):
    """Return the functions and methods of some sources."""
    return [node for tree in trees for node in ast.walk(tree) if isinstance(node, ast.FunctionDef)]


def yielders_of(functions):
    """Return by name the functions that yield, each with the fields that it walks."""
    return {function.name: fields_of(all_things([value for _, value, _ in walks(function)]))
            for function in functions
            if any(isinstance(node, (ast.Yield, ast.YieldFrom)) for node in ast.walk(function))}


def changers_of(functions):
    """Return by name the functions that change a field or what they are passed, each with those fields."""
    changers = {}
    grown = True
    while grown:
        grown = False
        for function in functions:
            names = Names(function)
            own = [names.head(part.arg) for part in function.args.args]
            found = [thing for thing in changed(function.body, changers)
                     if thing.startswith(".") or names.head(thing).rstrip("[]") in own]
            # Methods of several classes may share the name.
            fields = fields_of(found + changers.get(function.name, []))
            if found and changers.get(function.name) != fields:
                changers[function.name] = fields
                grown = True
    return changers


def bad_walks(trees):
    """Return each walk that may change what it walks: the function's name, the line and what is changed."""
    functions = functions_of(trees)
    changers, yielders = changers_of(functions), yielders_of(functions)
    found = []
    for function in functions:
        names = Names(function)
        for line, value, parts in walks(function):
            walked = things(value)
            for node in ast.walk(value):
                # What a function that yields was passed is walked as long as its call is, list(..) around it or not.
                if called(node) in yielders:
                    walked = walked + all_things(passed(node)) + yielders[called(node)]
            heads = [names.head(thing) for thing in walked]
            found += [(function.name, line, thing) for thing in changed(parts, changers)
                      if names.head(thing) in heads]
    return found
