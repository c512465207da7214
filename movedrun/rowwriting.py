"""A module's rows, in the sequence of its text."""

from movedrun.instructions import INSTRUCTIONS


def module_rows(module):
    classes, functions, main = module
    rows = ["main " + str(main)]
    for each in classes:
        add_class(rows, each)
    for function in functions:
        add_function(rows, function)
    return rows


def add_class(rows, each):
    name, above, fields, methods = each
    rows.append("class " + name + " " + ("-" if above is None else above))
    for field, kind in fields:
        rows.append("field " + field + " " + kind_text(kind))
    for method, index in methods:
        rows.append("method " + method + " " + str(index))


def add_function(rows, function):
    name, params, result, own, code, catches = function
    rows.append("function " + name + " " + ("-" if result is None else kind_text(result)))
    for kind in params:
        rows.append("param " + kind_text(kind))
    for kind in own:
        rows.append("local " + kind_text(kind))
    for instruction in code:
        rows.append(instruction_text(instruction))
    for begin, end, to, name in catches:
        rows.append(f"catch {begin} {end} {to} {name}")


def kind_text(kind):
    if isinstance(kind, str):
        return kind
    if kind[0] == "row":
        return "row " + kind_text(kind[1])
    return "of " + kind[1]


def instruction_text(instruction):
    words = [instruction[0]]
    for sort, part in zip(INSTRUCTIONS[instruction[0]], instruction[1:]):
        words.append(part_text(sort, part))
    return " ".join(words)


def part_text(sort, part):
    if sort == "entry":
        return kind_text(part)
    if sort == "truth":
        return "true" if part else "false"
    if sort == "text":
        return "-" if part == "" else ",".join([str(ord(sign)) for sign in part])
    return str(part)
