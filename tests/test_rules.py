"""[2], its last paragraph: what a program must keep beyond the forms of its statements."""

import unittest

from turnedparts.errors import BadProgram
from turnedparts.programs import check_program, is_program
from turnedparts.reading import read_module


class Case(unittest.TestCase):
    def told(self, *texts, **more):
        program = dict(zip("mn", map(read_module, texts)))
        program.update({name: read_module(text) for name, text in more.items()})
        return program

    def good(self, *texts, **more):
        program = self.told(*texts, **more)
        self.assertIsNone(check_program(program))
        self.assertTrue(is_program(program))

    def bad(self, number, *texts, module="m", **more):
        program = self.told(*texts, **more)
        with self.assertRaises(BadProgram) as caught:
            check_program(program)
        self.assertEqual((caught.exception.module, caught.exception.number), (module, number), texts)
        self.assertFalse(is_program(program))


class Tops(Case):
    def test_statements_of_tops(self):
        self.good('use n\nfrom n take x as y\ndef f():\n    pass\nclass c:\n    pass\nz = "t"\n', 'x = none\n')
        for line in ('a, b = ()', 'a.b = none', 'return', 'return none', 'yield none', 'raise bad', 'nonlocal a', 'see none',
                     'none', 'pass'):
            self.bad(1, f'a = none\n{line}\n')
        for head in ('if a:', 'for i in ():', 'each i in a:', 'with a:', 'with a as b:', 'try:'):
            tail = 'finally:\n    pass\n' if head == 'try:' else ''
            self.bad(1, f'a = none\n{head}\n    pass\n{tail}')

    def test_names_are_given_once(self):
        self.good('a = none\nclass b:\n    a = none\n    b = none\n', 'a = none\n')
        for line in ('a = none', 'use n', 'from n take x as y', 'def f():\n    pass', 'class c:\n    pass'):
            name = {'a': 'a', 'u': 'n', 'f': 'y', 'd': 'f', 'c': 'c'}[line[0]]
            size = 2 if '\n' in line else 1
            self.bad(size + 1, f'{line}\nb = none\n{name} = none\n', 'x = none\n')
            self.bad(2, f'{name} = none\nb = none\n{line}\n', 'x = none\n')

    def test_modules_and_names_that_are_there(self):
        self.good('use m\nfrom m take m as k\n')
        self.good('from n take x as y\nfrom m take y as z\n', 'from m take z as x\n')
        self.bad(1, 'a = none\nuse o\n')
        self.bad(1, 'a = none\nfrom o take x as y\n')
        self.bad(1, 'a = none\nfrom n take y as x\n', 'x = none\n')
        self.bad(0, 'from n take x as y\n', 'from m take a as b\ndef x():\n    pass\n', module='n')
        for text in ('use m\n', 'from m take y as m\n', 'def m():\n    pass\n', 'class m:\n    pass\n', 'm = none\n'):
            self.good('from n take m as y\n', text)


class Classes(Case):
    def test_statements_of_classes(self):
        self.good('class c:\n    pass\n    x = none\n    def f():\n        pass\n    pass\n')
        for line in ('use m', 'from m take a as k', 'a, b = ()', 'a.b = none', 'return', 'yield a', 'raise bad', 'nonlocal a',
                     'see a', 'a', 'class d:\n        pass', 'if a:\n        pass', 'for i in ():\n        pass',
                     'each i in a:\n        pass', 'with a:\n        pass'):
            self.bad(3, f'a = none\nclass c:\n    x = a\n    {line}\n')

    def test_names_are_given_once(self):
        self.bad(2, 'class c:\n    x = none\n    x = none\n')
        self.bad(2, 'class c:\n    x = none\n    def x():\n        pass\n')
        self.bad(3, 'class c:\n    def x():\n        pass\n    x = none\n')
        self.bad(4, 'class c:\n    def make(a):\n        pass\n    pass\n    def make(a):\n        pass\n')
        self.good('class c:\n    x = none\nclass d:\n    x = none\n')

    def test_no_let_gives_make(self):
        self.bad(2, 'class c:\n    x = none\n    make = none\n')
        self.good('make = none\nclass c:\n    def make(a):\n        pass\n')
        self.good('def f():\n    make = none\n')


class Still(Case):
    """No calls and no lambdas in expressions of tops and classes."""

    def test_lets_and_defaults(self):
        for told in ('f()', 'lambda: none', '?p(f())', '(lambda: f).x', '("t", f())', 'none if f() else none',
                     'none if none else f()', 'f().x'):
            for form, number in (('x = {}\n', 2), ('def g(a={}):\n    pass\n', 2), ('def g(a, /, *, b={}):\n    pass\n', 2),
                                 ('class c:\n    x = {}\n', 3), ('class c:\n    def g(a={}):\n        pass\n', 3)):
                self.bad(number, 'def f():\n    pass\n' + form.format(told))
            self.good(f'def f():\n    def g(a={told}):\n        pass\n    b = {told}\n')

    def test_still_ones(self):
        told = '(?p("t", f.x), none if f else f)'
        self.good(f'def f():\n    pass\nx = {told}\ndef g(a={told}):\n    pass\nclass c:\n    y = {told}\n'
                  f'    def g(a={told}):\n        pass\n')


class Functions(Case):
    def test_no_use_take_or_class(self):
        for line, size in (('use m', 1), ('from m take f as g', 1), ('class c:\n        pass', 2)):
            self.bad(2, f'def f():\n    pass\n    {line}\n')
            inner = line.replace('\n', '\n    ')
            self.bad(3, f'def f():\n    pass\n    if none:\n        {inner}\n')
            self.bad(3, f'def f():\n    pass\n    def g():\n        {inner}\n')
            self.bad(3, f'class d:\n    def f():\n        pass\n        {inner}\n')

    def test_names_that_are_there(self):
        self.good('def f(a, /, b, *, c):\n    see (a, b, c, f)\n')
        for line in ('x = none', 'x, y = none', 'for x in ():\n        pass', 'each x in f():\n        pass',
                     'with f() as x:\n        pass', 'try:\n        pass\n    except bad as x:\n        pass',
                     'def x():\n        pass', 'if none:\n        pass\n    else:\n        x = none'):
            self.good(f'def f():\n    see x\n    {line}\n')
            self.good(f'def f():\n    def g():\n        see x\n    {line}\n')
        for line in ('see x', 'x', 'y = x', 'y, z = x', 'return x', 'yield x', 'raise bad x', '(x,)', '?p(x)', 'f(x)',
                     'f(k=x)', 'x()', 'x.n', 'none if x else none', 'x if f else f', 'f if f else x', 'lambda: x',
                     'lambda k=x: none', 'if x:\n        pass', 'for i in (x,):\n        pass', 'each i in x:\n        pass',
                     'with x:\n        pass', 'def g(k=x):\n        pass'):
            self.bad(1, f'def f():\n    {line}\n')
            self.good(f'def f(x):\n    {line}\n')
            self.good(f'x = none\ndef f():\n    {line}\n')

    def test_names_of_others(self):
        # Of a function beside it, of one within, of a class, of another module.
        self.bad(3, 'def g(x):\n    y = none\ndef f():\n    see x\n')
        self.bad(1, 'def f():\n    see x\n    def g(x):\n        x = none\n')
        self.bad(3, 'class c:\n    x = none\n    def f():\n        see x\n')
        self.bad(1, 'def f():\n    see x\n', 'x = none\n')
        self.bad(2, 'class c:\n    x = none\n    y = x\n')
        self.bad(0, 'x = y\n')
        self.bad(0, 'def f(a, b=a):\n    pass\n')
        self.bad(1, 'def f():\n    def g(a, b=a):\n        pass\n')
        self.bad(0, 'class c(d):\n    pass\n')
        self.bad(0, 'class c(d.x):\n    pass\n')

    def test_parameters_of_lambdas(self):
        self.good('def f():\n    see lambda a, /, b, *, c: (a, b, c)\n')
        self.good('def f():\n    see lambda a: lambda b: (a, b)\n')
        self.good('def f():\n    see lambda a: lambda b=a: b\n')
        self.bad(1, 'def f():\n    see lambda a, b=a: b\n')
        self.bad(1, 'def f():\n    see (lambda a: a, a)\n')
        self.bad(1, 'def f():\n    see lambda a: (lambda b: a, b)\n')

    def test_names_of_uses(self):
        text = 'use n\nfrom n take o as p\nx = none\n'
        self.good(text + 'def f():\n    n.x\n    p.x\n    see n.x.y\n    n.x()\n', 'use m\nfrom m take n as o\n')
        for name in ('n', 'p'):
            for line in (f'see {name}', f'{name}()', f'f({name})', f'f({name}).x', f'lambda: {name}', f'x = {name}'):
                self.bad(4, text + f'def f():\n    {line}\n', 'use m\nfrom m take n as o\n')
            self.good(text + f'def f({name}):\n    see {name}\n', 'use m\nfrom m take n as o\n')
            self.good(text + f'def f():\n    see lambda {name}: {name}\n', 'use m\nfrom m take n as o\n')
            self.bad(4, text + f'def f():\n    lambda k={name}: {name}\n', 'use m\nfrom m take n as o\n')
            self.good(text + f'class c({name}.x):\n    pass\n', 'use m\nfrom m take n as o\n')
            self.bad(3, text + f'class c({name}):\n    pass\n', 'use m\nfrom m take n as o\n')
            self.bad(3, text + f'y = {name}\n', 'use m\nfrom m take n as o\n')

    def test_bases_are_names(self):
        self.good('use m\nx = none\nclass c(x, x.y, c, c.d, m.nothing):\n    pass\n')


class Nonlocal(Case):
    def test_names_of_functions_around(self):
        self.good('def f(a):\n    b = none\n    def g():\n        nonlocal a, b\n        def h():\n            nonlocal b\n')
        self.bad(0, 'def f():\n    nonlocal a\n    a = none\n')
        self.bad(1, 'a = none\ndef f():\n    nonlocal a\n    a = none\n')
        self.bad(1, 'a = none\ndef f():\n    if none:\n        nonlocal a\n')
        self.bad(2, 'def f():\n    see "t"\n    def g():\n        see "t"\n        nonlocal a\n')
        self.bad(1, 'def f():\n    def g():\n        nonlocal a\n    def h():\n        a = none\n')
        self.bad(2, 'class c:\n    a = none\n    def f():\n        nonlocal a\n')

    def test_no_parameters_of_this_one(self):
        self.bad(1, 'def f(a):\n    def g(a):\n        nonlocal a\n')
        self.bad(1, 'def f(a):\n    def g(b, *, a=none):\n        see "t"\n        nonlocal a\n')
        self.good('def f(a):\n    def g(b):\n        def h():\n            nonlocal a, b\n')

    def test_names_that_nonlocal_names_are_not_own(self):
        # The inner one is the outer one's own, and may be nonlocal further in.
        self.good('def f():\n    a = none\n    def g():\n        nonlocal a\n        def h():\n            nonlocal a\n')
        self.bad(2, 'def f():\n    def g():\n        def h():\n            nonlocal a\n')

    def test_number_is_that_of_the_def(self):
        # The name that is not there stands behind the def, but in front of its nonlocal.
        self.bad(1, 'def f():\n    def g():\n        see x\n        nonlocal y\n')
        self.bad(1, 'def f():\n    see x\n    def g():\n        nonlocal y\n')


MAKE = 'class c:\n    def make(self, a=none):\n        see a\n        {}\n'


class Make(Case):
    def test_does_not_yield(self):
        self.bad(1, MAKE.format('yield a'))
        self.bad(1, MAKE.format('if a:\n            yield a'))
        self.good(MAKE.format('def g():\n            yield a'))
        self.good('def make(self):\n    yield self\n')
        self.good('class c:\n    def get(self):\n        yield self\n')

    def test_first_parameter_is_given_nothing(self):
        for line in ('self = a', 'self, b = a', 'b, self = a', 'for self in ():\n            pass',
                     'each self in a:\n            pass', 'with a as self:\n            pass',
                     'try:\n            pass\n        except any as self:\n            pass',
                     'def self():\n            pass', 'if a:\n            self = a'):
            self.bad(1, MAKE.format(line))
            self.good(MAKE.format(line).replace('make', 'get'))
            self.good(MAKE.format(line).replace('self, a', 'this, a, self'))

    def test_nor_in_inner_defs(self):
        self.bad(3, MAKE.format('def g():\n            nonlocal self\n            self = a'))
        self.bad(3, MAKE.format('def g():\n            self = a\n            nonlocal self'))
        self.bad(4, MAKE.format('def g():\n            def h():\n                nonlocal self\n                self = a'))
        # A name of the inner def's own, and one that is given nothing.
        self.good(MAKE.format('def g():\n            self = a'))
        self.good(MAKE.format('def g(self):\n            self = a'))
        self.good(MAKE.format('def g():\n            nonlocal self\n            see a'))
        self.good(MAKE.format('def g():\n            self = a\n            def h():\n                nonlocal self\n'
                              '                self = a'))
        self.good(MAKE.format('def g():\n            nonlocal a\n            a = self.x'))

    def test_set_is_only_there(self):
        self.good(MAKE.format('self.x = a'))
        self.good(MAKE.format('if a:\n            self.x = a'))
        self.good('class c:\n    def make(s, /):\n        s.x = none\n')
        self.bad(3, MAKE.format('a.x = self'))
        self.bad(3, MAKE.format('self.x.y = a'))
        self.bad(3, MAKE.format('"t".x = a'))
        self.bad(4, MAKE.format('def g():\n            self.x = a'))
        self.bad(4, MAKE.format('def make(self):\n            self.x = a'))
        self.bad(2, 'class c:\n    def make():\n        c.x = none\n')
        self.bad(2, 'class c:\n    def get(self):\n        self.x = none\n')
        self.bad(1, 'def make(self):\n    self.x = none\n')
        self.bad(3, 'class c:\n    pass\ndef make(self):\n    self.x = none\n')


class Several(Case):
    def test_the_first_module_and_number(self):
        self.bad(1, 'x = none\ny = z\nx = none\n', 'y = z\n')
        self.bad(0, 'x = none\n', 'x = y\nx = z\n', module='n')
        self.bad(0, 'x = y\n', a='x = none\n', module='m')
        self.bad(1, 'x = y\n', a='x = none\nsee x\n', module='a')

    def test_numbers_behind_deep_statements(self):
        self.bad(8, 'def f():\n    if none:\n        pass\n    else:\n        try:\n            pass\n        except bad:\n'
                    '            pass\n        finally:\n            pass\n    pass\n    see x\n')
        self.bad(9, 'class c:\n    def f():\n        for i in ():\n            with i:\n                each j in i:\n'
                     '                    pass\n        i, = ()\n    def g():\n        return\n    x = y\n')

    def test_numbers_in_all_blocks(self):
        text = ('def f(a):\n    if a:\n        {}\n        pass\n    else:\n        {}\n    try:\n        {}\n    except bad:\n        {}\n        pass\n'
                '    except any:\n        {}\n    finally:\n        {}\n    for i in ():\n        {}\n    each i in a:\n        {}\n    with a:\n        {}\n'
                '    def g():\n        {}\n    {}\n')
        for at, number in enumerate((2, 4, 6, 7, 9, 10, 12, 14, 16, 18, 19)):
            self.bad(number, text.format(*["see x" if place == at else "pass" for place in range(11)]))
            self.bad(number, text.format(*["see x" if place == at or place > at else "pass" for place in range(11)]))

    def test_a_yield_in_make_comes_before_what_is_in_it(self):
        self.bad(1, MAKE.format('see x\n        yield a'))
        self.bad(0, 'class c(x):\n    def make(self):\n        yield none\n')


if __name__ == "__main__":
    unittest.main()
