"""Code of main of the tree's module: what each instruction does, and each fault."""

# With what it shows, the input being 8 and -9.
DOINGS = (
    ("int 3 ; show ; truth true ; show ; truth false ; show ; text ab ; show ; text ; show ; done", (3, True, False, "ab", "")),
    ("int 1 ; int 2 ; twin ; show ; drop ; show ; done", (2, 1)),
    ("int 2147483647 ; int 1 ; add ; show ; done", (-2147483648,)),
    ("text ab ; text c ; add ; show ; done", ("abc",)),
    ("int 1 ; int 3 ; sub ; show ; int 65536 ; int 65536 ; mul ; show ; int 3 ; int -5 ; mul ; show ; done", (-2, 0, -15)),
    ("int -7 ; int 2 ; div ; show ; int -7 ; int 2 ; rem ; show ; done", (-3, -1)),
    ("int -2147483648 ; int -1 ; div ; show ; int -2147483648 ; int -1 ; rem ; show ; done", (-2147483648, 0)),
    ("int 1 ; int 2 ; less ; show ; int 2 ; int 2 ; less ; show ; done", (True, False)),
    ("int 1 ; int 1 ; same ; not ; show ; truth true ; truth false ; same ; show ; done", (False, False)),
    ("text a ; text a ; same ; show ; text a ; twin ; same ; show ; nil ; nil ; same ; show ; done", (False, True, True)),
    ("int -5 ; tell ; show ; int 5 ; tell ; twin ; same ; show ; done", ("-5", True)),
    ("text abc ; int 2 ; sign ; show ; text abc ; size ; show ; done", (99, 3)),
    ("int 3 ; row int ; twin ; int 1 ; int 9 ; set ; twin ; int 1 ; at ; show ; size ; show ; done", (9, 3)),
    ("int 1 ; row truth ; int 0 ; at ; show ; int 1 ; row A ; int 0 ; at ; nil ; same ; show ; done", (False, True)),
    ("new B ; twin ; int 4 ; put A n ; twin ; get B n ; show ; get B t ; nil ; same ; show ; done", (4, True)),
    ("new B ; is A ; show ; nil ; is A ; show ; new A ; is B ; show ; nil ; as B ; is A ; show ; done", (True, False, False, False)),
    ("read ; show ; read ; show ; done", (8, -9)),
    ("new E ; int 7 ; ask A m ; show ; int 6 ; new B ; call 5 ; drop ; done", (7,)),
    ("jump 3 ; int 1 ; show ; truth true ; if 7 ; int 2 ; show ; int 3 ; show ; done", (3,)),
    ("truth false ; if 4 ; int 2 ; show ; int 3 ; show ; done", (2, 3)),
)

# With the fault to which it comes, the input being 8.
FAULTS = (
    ("nil ; get A n ; drop ; done", "nil"), ("nil ; int 1 ; put A n ; done", "nil"), ("nil ; int 0 ; at ; drop ; done", "nil"),
    ("nil ; as A ; int 1 ; ask A m ; drop ; done", "nil"), ("nil ; size ; drop ; done", "nil"),
    ("nil ; int 0 ; sign ; drop ; done", "nil"), ("nil ; throw", "nil"), ("nil ; show ; done", "nil"),
    ("nil ; text a ; add ; drop ; done", "nil"), ("text a ; nil ; add ; drop ; done", "nil"),
    ("new A ; get A r ; int 0 ; int 1 ; set ; done", "nil"),
    ("int 2 ; row int ; int 2 ; at ; drop ; done", "index"), ("int 2 ; row int ; int -1 ; int 0 ; set ; done", "index"),
    ("text ab ; int 2 ; sign ; drop ; done", "index"), ("int 1 ; int 0 ; div ; drop ; done", "zero"),
    ("int 1 ; int 0 ; rem ; drop ; done", "zero"), ("new A ; as B ; drop ; done", "cast"),
    ("int -1 ; row int ; drop ; done", "size"), ("int 1001 ; row int ; drop ; done", "size"),
    ("read ; drop ; read ; drop ; done", "dry"), ("new D ; throw", "thrown"),
)
