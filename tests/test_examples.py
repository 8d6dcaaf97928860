"""The examples of the document's interface, as they stand there."""

import unittest

READING = r"""
>>> from turnedparts.reading import read_module
>>> from turnedparts.writing import write_module
>>> told = read_module('def f(a, b="x", *, c=none):\n    see a\n    if b:\n        return ?plus(a, c)\n    raise bad b\n')
>>> [told[0][2], told[0][3][0], write_module({'m': told}, 'm').split('\n')[0]]
[(('a', 'plain', None), ('b', 'plain', ('text', 'x')), ('c', 'only', ('none',))), ('see', ('name', 'a')), 'def f(a, b="x", *, c=none):']
"""

OUTSIDE = r"""
>>> from turnedparts.outside import seen, uses
>>> from turnedparts.reading import read_module
>>> from turnedparts.worlds import World
>>> program = {'m': read_module('def f(a, b="x", *, c=none):\n    see a\n    if b:\n        return ?plus(a, c)\n    raise bad b\n')}
>>> world = World({'0': 5, '1': 6}, {('plus', (('number', 5), ('none',))): 9}, [6], None)
>>> [len(uses(program)), seen(program, ('call', 'm', 'f', 2, ()), world), seen(program, ('call', 'm', 'f', 0, ()), world)]
[11, [('see', ('number', 5)), ('back', ('number', 9))], [('raise', 'wrong', ('none',))]]
"""

GENERATORS = r"""
>>> from turnedparts.alikes import judge
>>> from turnedparts.outside import seen
>>> from turnedparts.reading import read_module
>>> from turnedparts.worlds import World
>>> program = {'m': read_module('def _g(a):\n    try:\n        yield a\n        yield "b"\n    finally:\n        see "end"\ndef f(a):\n    each x in _g(a):\n        return x\ndef g(a):\n    yield a\n    see "on"\n')}
>>> world = World({'0': 3}, {}, [], 1)
>>> [seen(program, ('call', 'm', 'f', 1, ()), world), seen(program, ('call', 'm', 'g', 1, ()), world)]
[[('see', ('text', 'end')), ('back', ('number', 3))], [('back', ('generator',)), ('yield', ('number', 3)), ('end',)]]
"""

CLASSES = r"""
>>> from turnedparts.outside import seen
>>> from turnedparts.reading import read_module
>>> from turnedparts.worlds import World
>>> program = {'m': read_module('class _b:\n    def get(self):\n        return self.x\nclass c(_b):\n    def make(self, x):\n        self.x = ?f(x)\n')}
>>> [seen(program, ('method', 'm', 'c', 1, (), 'get', 0, ()), World({'0': 2}, {('f', (('number', 2),)): 7}, [], None)), seen(program, ('read', 'm', 'c'), World({}, {}, [], None))]
[[('back', ('number', 7))], [('back', ('class',))]]
"""

TREES = r"""
>>> from turnedparts.alikes import tree
>>> from turnedparts.reading import read_module
>>> program = {'m': read_module('def f(a):\n    return "y" if a else ?g(a)\n')}
>>> tree(program, ('call', 'm', 'f', 1, ()))
('if', ('input', '0'), ('leaf', (('back', ('text', 'y')),)), ('leaf', (('back', ('op', 'g', (('input', '0'),))),)))
"""

JUDGING = r"""
>>> from turnedparts.alikes import judge
>>> from turnedparts.reading import read_module
>>> one = {'m': read_module('def f(a, b):\n    x = ?g(a)\n    see b\n    return x\n')}
>>> two = {'m': read_module('def _h(b):\n    see b\ndef f(a, b):\n    _h(b)\n    return ?g(a)\n')}
>>> three = {'m': read_module('def f(b, a):\n    see b\n    return ?g(a)\n')}
>>> found = judge(one, three)
>>> [bool(judge(one, two)), bool(found), found.use, found.place]
[True, False, ('call', 'm', 'f', 1, ('a',)), 0]
"""

TELLINGS = r"""
>>> from turnedparts.reading import read_module
>>> from turnedparts.tellings import hangs_on, is_silent, kinds_raised, never_done
>>> program = {'m': read_module('def f(a, b):\n    if a:\n        if a:\n            return ?g(a)\n        see b\n    raise bad\n')}
>>> use = ('call', 'm', 'f', 2, ())
>>> [kinds_raised(program, use), hangs_on(program, use), is_silent(program, use), never_done(program)]
[['bad'], ['0'], True, [('m', 4)]]
"""

LEAVING = r"""
>>> from turnedparts.leaving import lean
>>> from turnedparts.reading import read_module
>>> from turnedparts.writing import write_module
>>> program = {'m': read_module('def f(a):\n    x = ?g(a)\n    y = x\n    see a\n    return x\n')}
>>> write_module(lean(program).program, 'm')
'def f(a):\n    x = ?g(a)\n    see a\n    return x\n'
"""

HOUSES = r"""
>>> from turnedparts.errors import NotAlike
>>> from turnedparts.houses import House, watcher
>>> from turnedparts.reading import read_module
>>> house = House.of_texts(m='def f(a):\n    if a:\n        return a\n    else:\n        return a\n', strict=True)
>>> news = watcher(house)
>>> house.put('m', read_module('def f(a):\n    return a\n')).put('_n', ())
>>> [news(), house.text('m', numbers=True), [row[1] for row in house.each_statement('return')], list(house)]
[['_n', 'm'], '   0  def f(a):\n   1      return a\n', [1], ['_n', 'm']]
"""

BINDING = r"""
>>> from turnedparts.binding import bindings
>>> program = {'m': (('def', 'p', (('a', 'plain', None),), (('return', ('name', 'a')),)),)}
>>> bindings(program)
[('m', (0, 1), ('m', (), 'p')), ('m', (0, 2, 0, 0), ('m', (0,), 'a')), ('m', (0, 3, 0, 1, 1), ('m', (0,), 'a'))]
"""

RENAMING = r"""
>>> from turnedparts.reading import read_module
>>> from turnedparts.renaming import repairs
>>> program = {'m': read_module('def p(a, /):\n    b = a\n    return b\n')}
>>> repairs(program, {('m', (0,), 'a'): 'b'}).places
{('m', (0,), 'b'): ('m', (0, 3, 0, 1))}
"""

EXTRACTING = r"""
>>> from turnedparts.extracting import extract, put_back
>>> from turnedparts.reading import read_module
>>> from turnedparts.writing import write_module
>>> program = {'m': read_module('def p(a, /):\n    a = ?next(a)\n    return a\n')}
>>> late = extract(program, 'm', (0, 3), 0, 1, 'go')
>>> [write_module(late, 'm'), put_back(late, 'm', (0, 3), 0) == program]
['def p(a, /):\n    def go():\n        nonlocal a\n        a = ?next(a)\n    go()\n    return a\n', True]
"""

SIGNATURES = r"""
>>> from turnedparts.reading import read_module
>>> from turnedparts.signatures import change
>>> from turnedparts.writing import write_module
>>> program = {'m': read_module('def _g(t):\n    see t\n    return t\ndef _f(x, y):\n    return x\ndef p(a):\n    return _f(_g(a), y=_g("t"))\n')}
>>> found = change(program, 'm', '_f', (('y', 'front', None), ('x', 'plain', None)))
>>> [write_module(found.program, 'm')[-56:], found.puts]
['def p(a):\n    _va = _g(a)\n    return _f(_g("t"), x=_va)\n', {('m', (2, 3, 0, 1)): (0,)}]
"""

TURNING = r"""
>>> from turnedparts.reading import read_module
>>> from turnedparts.turning import lazy
>>> from turnedparts.writing import write_module
>>> program = {'m': read_module('def p(a):\n    for i in (a, "t"):\n        see i\n')}
>>> write_module(lazy(program, 'm', (0, 3), 0, 'items'), 'm')
'def p(a):\n    def items():\n        yield a\n        yield "t"\n    each i in items():\n        see i\n'
"""

STEPS = r"""
>>> from turnedparts.reading import read_module
>>> from turnedparts.steps import Exchange, Rename
>>> program = {'m': read_module('def p(a, /):\n    b = a\n    see a\n    return b\n')}
>>> row = Rename({('m', (0,), 'b'): 'c'}) + Exchange('m', (0, 3), 0)
>>> [len(row), row(program)['m'][0][3][1]]
[2, ('let', 'c', ('name', 'a'))]
"""

MERGING = r"""
>>> from turnedparts.merging import commute, merged
>>> from turnedparts.reading import read_module
>>> from turnedparts.steps import Exchange, Extract
>>> program = {'m': read_module('def p(a, /):\n    see a\n    see "t"\n    return a\n')}
>>> one, other = Extract('m', (0, 3), 0, 1, 'go'), Exchange('m', (0, 3), 0)
>>> [bool(commute(program, one, other)), merged(program, [one], [Extract('m', (0, 3), 1, 1, 'on')]).others[0].first]
[False, 2]
"""


class Examples(unittest.TestCase):
    def check(self, text):
        """See that the last line, with those in front of it done, comes to what stands behind it."""
        lines = text.strip().split("\n")
        rows = [line.removeprefix(">>> ") for line in lines if line.startswith(">>> ")]
        self.assertGreater(len(rows), 2)
        self.assertEqual(len(lines), len(rows) + 1)
        space = {}
        exec("\n".join(rows[:-1]), space)
        self.assertEqual(repr(eval(rows[-1], space)), lines[-1])

    def test_reading_and_writing(self):
        self.check(READING)

    def test_outside(self):
        self.check(OUTSIDE)

    def test_generators(self):
        self.check(GENERATORS)

    def test_classes(self):
        self.check(CLASSES)

    def test_trees(self):
        self.check(TREES)

    def test_judging(self):
        self.check(JUDGING)

    def test_tellings(self):
        self.check(TELLINGS)

    def test_leaving(self):
        self.check(LEAVING)

    def test_houses(self):
        self.check(HOUSES)

    def test_binding(self):
        self.check(BINDING)

    def test_renaming(self):
        self.check(RENAMING)

    def test_extracting(self):
        self.check(EXTRACTING)

    def test_signatures(self):
        self.check(SIGNATURES)

    def test_turning(self):
        self.check(TURNING)

    def test_steps(self):
        self.check(STEPS)

    def test_merging(self):
        self.check(MERGING)


if __name__ == "__main__":
    unittest.main()
