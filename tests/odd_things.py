"""Things that are no worth, no text and no number, for refusals that are due of anything."""


class Sour:
    """Answers every question with an error."""

    def sour(self, *rest):
        raise RuntimeError("this thing is not to be asked")

    __eq__ = __ne__ = __lt__ = __le__ = __gt__ = __ge__ = sour
    __len__ = __iter__ = __getitem__ = __bool__ = __hash__ = sour
    __int__ = __index__ = __str__ = __repr__ = __getattribute__ = sour


def odd_things():
    ring = []
    ring.append(ring)
    return [None, True, False, 0, 1, -1, 10 ** 60, 1.0, float("nan"), 1j, "", "1", "nums", b"", b"1",
            [], [1], (), (1,), {}, {1: 2}, set(), {1}, frozenset(), range(2), object(), Sour(), Sour,
            int, len, NotImplemented, ..., ring, iter([]), bytearray(b"1")]
