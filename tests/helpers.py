"""What the tests share: a test case that knows the errors of the program, and watches the arguments of a call."""

import time
import unittest

from latelink.errors import LinkError
from latelink.forest import Forest
from latelink.links import Links
from tests.model import Model

# "At once" is far less than this; what goes through all orders or standings of a long list takes far more.
MOST_SECONDS = 10


def frozen(value):
    """The value as it is now, to compare it with itself later."""
    if isinstance(value, Links):
        return value.dump()
    if isinstance(value, Forest):
        return str(value)
    if isinstance(value, (list, tuple)):
        return [frozen(member) for member in value]
    if isinstance(value, dict):
        return [(key, frozen(member)) for key, member in value.items()]
    return value


def made(size, rights, lefts, *outs):
    """The standing with these links instead of those of the whole list, and with these nodes out."""
    model = Model(size)
    model.right.update(rights)
    model.left.update(lefts)
    model.out.update(outs)
    return Links.read(model.dump())


class LinkCase(unittest.TestCase):
    def told(self, function, *values, **named):
        """What the call returns; it has changed none of its arguments."""
        before = frozen(list(values))
        result = function(*values, **named)
        self.assertEqual(frozen(list(values)), before, "an argument has changed")
        return result

    def assert_told(self, expected, function, *values, **named):
        """The call returns this value, and the value is of this very kind."""
        result = self.told(function, *values, **named)
        self.assertEqual(result, expected)
        self.assertIs(type(result), type(expected))

    def at_once(self, function, *values, **named):
        """What the call returns; it does not take long."""
        start = time.process_time()
        result = self.told(function, *values, **named)
        self.assertLess(time.process_time() - start, MOST_SECONDS, function.__name__)
        return result

    def assert_new(self, function, *values, **named):
        """Each call returns a list of its own."""
        first = function(*values, **named)
        kept = frozen(first)
        first.append("changed")
        self.assertEqual(frozen(function(*values, **named)), kept)

    def assert_error(self, expected, function, *values, **named):
        """The call raises this error with these attributes, and changes none of its arguments."""
        before = frozen(list(values))
        with self.assertRaises(LinkError) as caught:
            function(*values, **named)
        self.assertEqual(frozen(list(values)), before, "an argument has changed")
        self.assertIs(type(caught.exception), type(expected))
        self.assertEqual(list(vars(caught.exception).items()), list(vars(expected).items()))
