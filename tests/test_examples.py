"""The examples of the document's interface, as they stand there."""

import doctest
import unittest

READING = r"""
>>> from turnedparts.reading import read_module
>>> from turnedparts.writing import write_module
>>> told = read_module('def f(a, b="x", *, c=none):\n    see a\n    if b:\n        return ?plus(a, c)\n    raise bad b\n')
>>> [told[0][2], told[0][3][0], write_module({'m': told}, 'm').split('\n')[0]]
[(('a', 'plain', None), ('b', 'plain', ('text', 'x')), ('c', 'only', ('none',))), ('see', ('name', 'a')), 'def f(a, b="x", *, c=none):']
"""

OUTSIDE = r"""
>>> from turnedparts.outside import seen, uses
>>> from turnedparts.reading import read_module
>>> from turnedparts.worlds import World
>>> program = {'m': read_module('def f(a, b="x", *, c=none):\n    see a\n    if b:\n        return ?plus(a, c)\n    raise bad b\n')}
>>> world = World({'0': 5, '1': 6}, {('plus', (('number', 5), ('none',))): 9}, [6], None)
>>> [len(uses(program)), seen(program, ('call', 'm', 'f', 2, ()), world), seen(program, ('call', 'm', 'f', 0, ()), world)]
[11, [('see', ('number', 5)), ('back', ('number', 9))], [('raise', 'wrong', ('none',))]]
"""

GENERATORS = r"""
>>> from turnedparts.alikes import judge
>>> from turnedparts.outside import seen
>>> from turnedparts.reading import read_module
>>> from turnedparts.worlds import World
>>> program = {'m': read_module('def _g(a):\n    try:\n        yield a\n        yield "b"\n    finally:\n        see "end"\ndef f(a):\n    each x in _g(a):\n        return x\ndef g(a):\n    yield a\n    see "on"\n')}
>>> world = World({'0': 3}, {}, [], 1)
>>> [seen(program, ('call', 'm', 'f', 1, ()), world), seen(program, ('call', 'm', 'g', 1, ()), world)]
[[('see', ('text', 'end')), ('back', ('number', 3))], [('back', ('generator',)), ('yield', ('number', 3)), ('end',)]]
"""

CLASSES = r"""
>>> from turnedparts.outside import seen
>>> from turnedparts.reading import read_module
>>> from turnedparts.worlds import World
>>> program = {'m': read_module('class _b:\n    def get(self):\n        return self.x\nclass c(_b):\n    def make(self, x):\n        self.x = ?f(x)\n')}
>>> [seen(program, ('method', 'm', 'c', 1, (), 'get', 0, ()), World({'0': 2}, {('f', (('number', 2),)): 7}, [], None)), seen(program, ('read', 'm', 'c'), World({}, {}, [], None))]
[[('back', ('number', 7))], [('back', ('class',))]]
"""

TREES = r"""
>>> from turnedparts.alikes import tree
>>> from turnedparts.reading import read_module
>>> program = {'m': read_module('def f(a):\n    return "y" if a else ?g(a)\n')}
>>> tree(program, ('call', 'm', 'f', 1, ()))
('if', ('input', '0'), ('leaf', (('back', ('text', 'y')),)), ('leaf', (('back', ('op', 'g', (('input', '0'),))),)))
"""

JUDGING = r"""
>>> from turnedparts.alikes import judge
>>> from turnedparts.reading import read_module
>>> one = {'m': read_module('def f(a, b):\n    x = ?g(a)\n    see b\n    return x\n')}
>>> two = {'m': read_module('def _h(b):\n    see b\ndef f(a, b):\n    _h(b)\n    return ?g(a)\n')}
>>> three = {'m': read_module('def f(b, a):\n    see b\n    return ?g(a)\n')}
>>> found = judge(one, three)
>>> [bool(judge(one, two)), bool(found), found.use, found.place]
[True, False, ('call', 'm', 'f', 1, ('a',)), 0]
"""

TELLINGS = r"""
>>> from turnedparts.reading import read_module
>>> from turnedparts.tellings import hangs_on, is_silent, kinds_raised, never_done
>>> program = {'m': read_module('def f(a, b):\n    if a:\n        if a:\n            return ?g(a)\n        see b\n    raise bad\n')}
>>> use = ('call', 'm', 'f', 2, ())
>>> [kinds_raised(program, use), hangs_on(program, use), is_silent(program, use), never_done(program)]
[['bad'], ['0'], True, [('m', 4)]]
"""

LEAVING = r"""
>>> from turnedparts.leaving import lean
>>> from turnedparts.reading import read_module
>>> from turnedparts.writing import write_module
>>> program = {'m': read_module('def f(a):\n    x = ?g(a)\n    y = x\n    see a\n    return x\n')}
>>> write_module(lean(program).program, 'm')
'def f(a):\n    x = ?g(a)\n    see a\n    return x\n'
"""


class Examples(unittest.TestCase):
    def check(self, text):
        test = doctest.DocTestParser().get_doctest(text, {}, "example", None, 0)
        told = []
        failed, tried = doctest.DocTestRunner(verbose=False).run(test, out=told.append)
        self.assertEqual(failed, 0, "".join(told))
        self.assertGreater(tried, 3)

    def test_reading_and_writing(self):
        self.check(READING)

    def test_outside(self):
        self.check(OUTSIDE)

    def test_generators(self):
        self.check(GENERATORS)

    def test_classes(self):
        self.check(CLASSES)

    def test_trees(self):
        self.check(TREES)

    def test_judging(self):
        self.check(JUDGING)

    def test_tellings(self):
        self.check(TELLINGS)

    def test_leaving(self):
        self.check(LEAVING)


if __name__ == "__main__":
    unittest.main()
