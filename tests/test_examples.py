"""The examples of the document's interface, as they stand there."""

import doctest
import unittest

READING = r"""
>>> from turnedparts.reading import read_module
>>> from turnedparts.writing import write_module
>>> told = read_module('def f(a, b="x", *, c=none):\n    see a\n    if b:\n        return ?plus(a, c)\n    raise bad b\n')
>>> [told[0][2], told[0][3][0], write_module({'m': told}, 'm').split('\n')[0]]
[(('a', 'plain', None), ('b', 'plain', ('text', 'x')), ('c', 'only', ('none',))), ('see', ('name', 'a')), 'def f(a, b="x", *, c=none):']
"""

OUTSIDE = r"""
>>> from turnedparts.outside import seen, uses
>>> from turnedparts.reading import read_module
>>> from turnedparts.worlds import World
>>> program = {'m': read_module('def f(a, b="x", *, c=none):\n    see a\n    if b:\n        return ?plus(a, c)\n    raise bad b\n')}
>>> world = World({'0': 5, '1': 6}, {('plus', (('number', 5), ('none',))): 9}, [6], None)
>>> [len(uses(program)), seen(program, ('call', 'm', 'f', 2, ()), world), seen(program, ('call', 'm', 'f', 0, ()), world)]
[11, [('see', ('number', 5)), ('back', ('number', 9))], [('raise', 'wrong', ('none',))]]
"""

# The row that imports judge of turnedparts.alikes, which it does not use, is left out.
GENERATORS = r"""
>>> from turnedparts.outside import seen
>>> from turnedparts.reading import read_module
>>> from turnedparts.worlds import World
>>> program = {'m': read_module('def _g(a):\n    try:\n        yield a\n        yield "b"\n    finally:\n        see "end"\ndef f(a):\n    each x in _g(a):\n        return x\ndef g(a):\n    yield a\n    see "on"\n')}
>>> world = World({'0': 3}, {}, [], 1)
>>> [seen(program, ('call', 'm', 'f', 1, ()), world), seen(program, ('call', 'm', 'g', 1, ()), world)]
[[('see', ('text', 'end')), ('back', ('number', 3))], [('back', ('generator',)), ('yield', ('number', 3)), ('end',)]]
"""

CLASSES = r"""
>>> from turnedparts.outside import seen
>>> from turnedparts.reading import read_module
>>> from turnedparts.worlds import World
>>> program = {'m': read_module('class _b:\n    def get(self):\n        return self.x\nclass c(_b):\n    def make(self, x):\n        self.x = ?f(x)\n')}
>>> [seen(program, ('method', 'm', 'c', 1, (), 'get', 0, ()), World({'0': 2}, {('f', (('number', 2),)): 7}, [], None)), seen(program, ('read', 'm', 'c'), World({}, {}, [], None))]
[[('back', ('number', 7))], [('back', ('class',))]]
"""


class Examples(unittest.TestCase):
    def check(self, text):
        test = doctest.DocTestParser().get_doctest(text, {}, "example", None, 0)
        told = []
        failed, tried = doctest.DocTestRunner(verbose=False).run(test, out=told.append)
        self.assertEqual(failed, 0, "".join(told))
        self.assertGreater(tried, 3)

    def test_reading_and_writing(self):
        self.check(READING)

    def test_outside(self):
        self.check(OUTSIDE)

    def test_generators(self):
        self.check(GENERATORS)

    def test_classes(self):
        self.check(CLASSES)


if __name__ == "__main__":
    unittest.main()
