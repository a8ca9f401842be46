"""Texts of programs that are kept, each with changes that break it: (old, new, the name of the first broken duty)."""

FILL = """\
proc fill n y ; r
  need n >= 0
  give each 0 to n - 1 r >= y
  give each 0 to n - 1 r <= y
  while n >= i + 1
    keep i >= 0
    keep n >= i
    keep each 0 to i - 1 r >= y
    keep each 0 to i - 1 r <= y
    r[i] := y
    i := i + 1
  end
back"""

FILL_BROKEN = [
    ("need n >= 0", "need n >= -1", ("fill", "enter", (0,), 1)),
    ("  need n >= 0\n", "", ("fill", "enter", (0,), 1)),
    ("give each 0 to n - 1 r >= y", "give each 0 to n r >= y", ("fill", "give", (), 0)),
    ("give each 0 to n - 1 r >= y", "give each -1 to n - 1 r >= y", ("fill", "give", (), 0)),
    ("give each 0 to n - 1 r >= y", "give each 0 to n - 1 r >= y + 1", ("fill", "give", (), 0)),
    ("give each 0 to n - 1 r <= y", "give each 0 to n - 1 r <= y - 1", ("fill", "give", (), 1)),
    ("while n >= i + 1", "while n >= i", ("fill", "keep", (0,), 1)),
    ("while n >= i + 1", "while n >= i + 2", ("fill", "give", (), 0)),
    ("keep i >= 0", "keep i >= 1", ("fill", "enter", (0,), 0)),
    ("keep each 0 to i - 1 r >= y", "keep each 0 to i r >= y", ("fill", "enter", (0,), 2)),
    ("keep each 0 to i - 1 r >= y", "keep each 0 to i - 2 r >= y", ("fill", "keep", (0,), 2)),
    ("keep each 0 to i - 1 r >= y", "keep each 1 to i - 1 r >= y", ("fill", "give", (), 0)),
    ("    keep each 0 to i - 1 r >= y\n", "", ("fill", "give", (), 0)),
    ("    keep each 0 to i - 1 r <= y\n", "", ("fill", "give", (), 1)),
    ("r[i] := y", "r[i] := y - 1", ("fill", "keep", (0,), 2)),
    ("r[i] := y", "r[i] := y + 1", ("fill", "keep", (0,), 3)),
    ("r[i] := y", "r[i + 1] := y", ("fill", "keep", (0,), 2)),
    ("i := i + 1", "i := i + 2", ("fill", "keep", (0,), 1)),
    ("i := i + 1", "i := i - 1", ("fill", "keep", (0,), 0)),
]

COPY = """\
proc copy n ; r s
  need n >= 0
  give each 0 to n - 1 s >= r[]
  give each 0 to n - 1 s <= r[]
  while n >= i + 1
    keep n >= i
    keep each 0 to i - 1 s >= r[]
    keep each 0 to i - 1 s <= r[]
    s[i] := r[i]
    i := i + 1
  end
back"""

COPY_BROKEN = [
    ("s[i] := r[i]", "s[i] := r[i] - 1", ("copy", "keep", (0,), 1)),
    ("s[i] := r[i]", "s[i] := r[i] + 1", ("copy", "keep", (0,), 2)),
    ("s[i] := r[i]", "s[i] := r[i + 1]", ("copy", "keep", (0,), 1)),
    ("s[i] := r[i]", "r[i] := s[i]\n    r[i - 1] := s[i]", ("copy", "keep", (0,), 1)),
    ("i := i + 1", "i := i + 2", ("copy", "keep", (0,), 0)),
    ("    keep each 0 to i - 1 s <= r[]\n", "", ("copy", "give", (), 1)),
    ("give each 0 to n - 1 s <= r[]", "give each 0 to n s <= r[]", ("copy", "give", (), 1)),
]

MOST = """\
proc most n ; r
  need n >= 1
  give each 0 to n - 1 r <= out
  out := r[0]
  i := 1
  while n >= i + 1
    keep n >= i
    keep each 0 to i - 1 r <= out
    if r[i] >= out + 1
      out := r[i]
    else
    end
    i := i + 1
  end
back"""

MOST_BROKEN = [
    ("need n >= 1", "need n >= 0", ("most", "enter", (2,), 0)),
    ("r[i] >= out + 1", "r[i] >= out + 2", ("most", "keep", (2,), 1)),
    ("out := r[i]", "out := r[i] - 1", ("most", "keep", (2,), 1)),
    ("out := r[0]", "out := r[1]", ("most", "enter", (2,), 1)),
    ("i := 1", "i := 2", ("most", "enter", (2,), 0)),
    ("    keep each 0 to i - 1 r <= out\n", "", ("most", "give", (), 0)),
    ("give each 0 to n - 1 r <= out", "give each 0 to n - 1 r <= out - 1", ("most", "give", (), 0)),
]

COUNT = """\
proc count n ;
  need n >= 0
  give out >= n
  give n >= out
  while n >= out + 1
    keep n >= out
    out := out + 1
  end
back"""

COUNT_BROKEN = [
    ("need n >= 0", "need n >= -1", ("count", "enter", (0,), 0)),
    ("while n >= out + 1", "while n >= out", ("count", "keep", (0,), 0)),
    ("while n >= out + 1", "while n >= out + 2", ("count", "give", (), 0)),
    ("    keep n >= out\n", "", ("count", "give", (), 1)),
    ("out := out + 1", "out := out + 2", ("count", "keep", (0,), 0)),
    ("give out >= n", "give out >= n + 1", ("count", "give", (), 0)),
    ("give n >= out", "give n >= out + 1", ("count", "give", (), 1)),
]

LONGER = """\
proc longer n ; r
  need n >= 0
  give rise 0 to n r
  while n >= i + 1
    keep i >= 0
    keep n >= i
    keep rise 0 to i r
    r[i + 1] := r[i] + 1
    i := i + 1
  end
back"""

LONGER_BROKEN = [
    ("r[i + 1] := r[i] + 1", "r[i + 1] := r[i] - 1", ("longer", "keep", (0,), 2)),
    ("r[i + 1] := r[i] + 1", "r[i] := r[i] + 1", ("longer", "keep", (0,), 2)),
    ("keep rise 0 to i r", "keep rise 0 to i + 1 r", ("longer", "enter", (0,), 2)),
    ("give rise 0 to n r", "give rise 0 to n + 1 r", ("longer", "give", (), 0)),
    ("    keep rise 0 to i r\n", "", ("longer", "give", (), 0)),
]

CALLS = """\
proc twice n ; r s
  need n >= 2
  give s[1] >= n
  give out >= 4
  call k fill n n ; r
  claim r[1] >= n
  call k copy n ; r s
  claim s[1] >= r[1]
  call k fill n n ; s
  call out count n ;
  claim s[0] >= n
  out := out + 2
back
""" + FILL + "\n" + COPY + "\n" + COUNT

CALLS_BROKEN = [
    ("need n >= 2", "need n >= -1", ("twice", "need", (0,), 0)),
    ("need n >= 2", "need n >= 1", ("twice", "claim", (1,), 0)),
    ("give out >= 4", "give out >= 5", ("twice", "give", (), 1)),
    ("call k fill n n ; r", "call k fill n n ; s", ("twice", "claim", (1,), 0)),
    ("call k copy n ; r s", "call k copy k ; r s", ("twice", "need", (2,), 0)),
    ("call k copy n ; r s", "call k copy n ; s r\n  claim r[1] >= n", ("twice", "claim", (3,), 0)),
    ("call k fill n n ; s", "call k fill n k ; s", ("twice", "claim", (6,), 0)),
    ("  give out >= n\n", "", ("twice", "give", (), 1)),
    ("  out := out + 2", "  s[1] := n - 1", ("twice", "give", (), 0)),
    ("out := out + 1", "out := out + 2", ("count", "keep", (0,), 0)),
]

KEPT = [FILL, COPY, MOST, COUNT, LONGER, CALLS]
BROKEN = []
for text, changes in zip(KEPT, [FILL_BROKEN, COPY_BROKEN, MOST_BROKEN, COUNT_BROKEN, LONGER_BROKEN, CALLS_BROKEN]):
    for old, new, name in changes:
        BROKEN.append((text.replace(old, new, 1), name))
