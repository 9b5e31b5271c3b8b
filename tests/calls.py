"""What tests of the functions share: calls that raise errors, and bent values."""

import time
import unittest

from cellyards.yards import Yard

SECONDS = 3


class CallTest(unittest.TestCase):
    def fails(self, kind, field, worth, call, *args, **more):
        """Whether a call raises just this error with this field, of the same kind."""
        with self.assertRaises(kind) as caught:
            call(*args, **more)
        self.assertIs(type(caught.exception), kind)
        found = getattr(caught.exception, field)
        self.assertEqual(found, worth)
        self.assertIs(type(found), type(worth))

    def quick(self, call, *args, **more):
        """What a call returns, within a few seconds."""
        begin = time.perf_counter()
        answer = call(*args, **more)
        self.assertLess(time.perf_counter() - begin, SECONDS)
        return answer

    def order_tuple(self, thing):
        """Whether a value is a tuple of integers, as orders and ranks are."""
        self.assertIs(type(thing), tuple)
        self.assertTrue(all(type(item) is int for item in thing))


def exchanged(row, at, item):
    """A row with another item at a place, of the same kind."""
    return row[:at] + type(row)([item]) + row[at + 1:]


def bent(row, more):
    """Rows like a row: each item left out, told twice, or another thing for it; the row turned."""
    for at in range(len(row)):
        yield row[:at] + row[at + 1:]
        yield row[:at] + row[at:at + 1] + row[at:]
        for item in more:
            yield exchanged(row, at, item)
    for at in range(len(row) + 1):
        for item in more:
            yield row[:at] + type(row)([item]) + row[at:]
    yield row[::-1]
    yield tuple(row) if isinstance(row, list) else list(row)


NOT_YARDS = [
    None, True, False, 0, 1, -1, "", "yard", (), [], {}, (1,), [Yard(1)], (Yard(1), Yard(1)),
    {"yard": Yard(1)}, (1, (), (), ()), (2, 1), ("in", 0),
]
