"""What statements and expressions are made of: behind each word the sorts of its parts.

The sorts: expression, block, args (a tuple of expressions), value (an expression, or None for none),
name, known (a name or self), kind, entry (the kind of a row's entries), sign, int, truth, text.
"""

STATEMENTS = {
    "var": ("name", "kind", "expression"),
    "set": ("name", "expression"),
    "put": ("expression", "name", "expression"),
    "place": ("expression", "expression", "expression"),
    "if": ("expression", "block", "block"),
    "while": ("expression", "block"),
    "return": ("value",),
    "throw": ("expression",),
    "try": ("block", "name", "name", "block"),
    "show": ("expression",),
    "do": ("expression",),
}

EXPRESSIONS = {
    "int": ("int",),
    "truth": ("truth",),
    "text": ("text",),
    "nil": (),
    "name": ("known",),
    "get": ("expression", "name"),
    "at": ("expression", "expression"),
    "call": ("name", "args"),
    "ask": ("expression", "name", "args"),
    "new": ("name",),
    "row": ("entry", "expression"),
    "op": ("sign", "expression", "expression"),
    "not": ("expression",),
    "is": ("expression", "name"),
    "as": ("expression", "name"),
    "size": ("expression",),
    "sign": ("expression", "expression"),
    "tell": ("expression",),
    "read": (),
}

SIGNS = ("+", "-", "*", "/", "rem", "<", "=", "and", "or")
