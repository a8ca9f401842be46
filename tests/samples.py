"""Programs and claims that several tests share."""

ZERO = ("is", "")


def num(x):
    return ("is", x)


def at(r, x="", d=0):
    return ("at", r, (x, d))


def least(a, b, c=0):
    return ("least", a, b, c)


def each(t, u, r, way=">=", b=ZERO, c=0):
    return ("each", t, u, r, way, b, c)


def rise(t, u, r):
    return ("rise", t, u, r)


def proc(f, params=(), rows=(), needs=(), gives=(), body=()):
    return ("proc", f, tuple(params), tuple(rows), tuple(needs), tuple(gives), tuple(body))


def branch(condition, body=(), other=()):
    return ("if", condition, tuple(body), tuple(other))


def loop(condition, keeps=(), body=()):
    return ("while", condition, tuple(keeps), tuple(body))


TRUE = least(ZERO, ZERO)

# Ways to stand within a statement that has bodies.
ROUND = [
    lambda body: branch(TRUE, body, ()),
    lambda body: branch(TRUE, (), body),
    lambda body: loop(TRUE, (), body),
]


def nested(body):
    """The body by itself, within each form of body, and at each depth up to four."""
    told = [tuple(body)]
    for around in ROUND:
        told.append((around(tuple(body)),))
    deeper = tuple(body)
    for depth in range(4):
        deeper = (("any", "k"), ROUND[depth % len(ROUND)](deeper), ("any", "k"))
        told.append(deeper)
    return told


FILL_TEXT = """\
proc fill n y ; r
  need n >= 0
  give each 0 to n - 1 r >= y
  give each 0 to n - 1 r <= y
  while n >= i + 1
    keep i >= 0
    keep n >= i
    keep each 0 to i - 1 r >= y
    keep each 0 to i - 1 r <= y
    r[i] := y
    i := i + 1
  end
back
proc top n ; r s
  need n >= 1
  give out >= r[0]
  give rise 0 to n - 1 s
  call k fill n n ; r
  call k fill n k ; s
  any k
  if r[k - 1] >= s[-1] + 3
    if k >= -5
      while 0 >= r[k]
        claim rise k to n r
        r[k] := r[k + 1] - 1
      end
    else
      claim each k to n - 1 s >= r[] - 2
    end
    out := r[0]
  else
    out := r[0] + 9999999999999999999
    s[-7] := -12
    out := r[0]
  end
back
proc bare ;
back"""

FILL = (
    proc("fill", ["n", "y"], ["r"], [least(num("n"), ZERO)], [
        each(("", 0), ("n", -1), "r", ">=", num("y")),
        each(("", 0), ("n", -1), "r", "<=", num("y")),
    ], [
        loop(least(num("n"), num("i"), 1), [
            least(num("i"), ZERO),
            least(num("n"), num("i")),
            each(("", 0), ("i", -1), "r", ">=", num("y")),
            each(("", 0), ("i", -1), "r", "<=", num("y")),
        ], [
            ("put", "r", ("i", 0), num("y"), 0),
            ("set", "i", num("i"), 1),
        ]),
    ]),
    proc("top", ["n"], ["r", "s"], [least(num("n"), ZERO, 1)], [
        least(num("out"), at("r")),
        rise(("", 0), ("n", -1), "s"),
    ], [
        ("call", "k", "fill", ("n", "n"), ("r",)),
        ("call", "k", "fill", ("n", "k"), ("s",)),
        ("any", "k"),
        branch(least(at("r", "k", -1), at("s", "", -1), 3), [
            branch(least(num("k"), ZERO, -5), [
                loop(least(ZERO, at("r", "k")), [], [
                    ("claim", rise(("k", 0), ("n", 0), "r")),
                    ("put", "r", ("k", 0), at("r", "k", 1), -1),
                ]),
            ], [
                ("claim", each(("k", 0), ("n", -1), "s", ">=", ("row", "r"), -2)),
            ]),
            ("set", "out", at("r"), 0),
        ], [
            ("set", "out", at("r"), 9999999999999999999),
            ("put", "s", ("", -7), ZERO, -12),
            ("set", "out", at("r"), 0),
        ]),
    ]),
    proc("bare"),
)
