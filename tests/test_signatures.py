"""[15] Signatures: functions with other parameters, and what their calls give then."""

import itertools
import unittest

from calling import calling_program
from helping import told
from places import alike, part
from turnedparts.errors import BadPlace, BadPlan, BadProgram, NotPlain, PartsError
from turnedparts.reading import read_module
from turnedparts.signatures import Change, change
from turnedparts.writing import write_module

HELP = "def _g(t):\n    see t\n    return t\n"


def plan_of(text):
    """The parameters in a text of those of a def."""
    return read_module(f"def f({text}):\n    pass\n")[0][2]


class Turning(unittest.TestCase):
    maxDiff = None

    def turned(self, params, plan, lines, late, puts=(), body="pass", **modules):
        """See what a function and the lines of a caller are turned into."""
        modules = {name: HELP.replace("_g", "_gg") + text for name, text in modules.items()}
        head = HELP + "def _f({}):\n    " + body + "\ndef p(a, b):\n"
        program = told(head.format(params) + "".join(f"    {line}\n" for line in lines), **modules)
        found = change(program, "m", "_f", plan_of(plan))
        self.assertEqual(write_module(found.program, "m"), head.format(plan) + "".join(f"    {line}\n" for line in late))
        self.assertEqual(found.puts, {("m", (2, 3, *path)): numbers for path, numbers in puts})
        self.assertEqual({name for name in found.program}, set(program))
        self.assertIs(alike(program, found.program), True)
        return found

    def call(self, params, plan, early, late, **more):
        """The same, for a single call that is returned."""
        return self.turned(params, plan, [f"return _f({early})"], [f"return _f({late})"], **more)

    def test_the_same(self):
        self.call("x", "x", "a", "x=a")
        self.call("x, /, y, *, z", "x, /, y, *, z", "a, b, z=a", "a, y=b, z=a")
        self.call("x, y=none", "x, y=none", "a", "x=a")
        self.call("", "", "", "")

    def test_reordered(self):
        self.call("x, y, /", "y, x, /", "a, b", "b, a")
        self.call("x, y", "y, x, /", "a, b", "b, a")
        self.call("x, y", "y, x, /", "y=a, x=b", "a, b")
        self.call("x, y, /", "x, y", "a, b", "x=a, y=b")
        self.call("x, y", "y, /, x", "a, y=b", "b, x=a")
        self.call("x, y, z", "z, x, y", "a, z=b, y=none", "x=a, z=b, y=none")
        self.call("x, /, y, *, z", "z, /, y, *, x", "a, z=b, y=none", "b, x=a, y=none")

    def test_kinds(self):
        self.call("x", "x, /", "x=a", "a")
        self.call("x, /", "*, x", "a", "x=a")
        self.call("*, x", "x, /", "x=a", "a")
        self.call("x, *, y", "*, y, x", "a, y=b", "x=a, y=b")

    def test_new_ones(self):
        self.call("x", 'x, y="n"', "a", "x=a")
        self.call("x", 'x, *, y="n"', "a", "x=a")
        self.call("x", 'y="n", x=none, /', "a", '"n", a')
        self.call("x=none", 'y="n", x=none, /', "", "")
        self.call("x=none", 'x=none, y="n", /', "a", "a")
        self.call("x, z", 'v="n", w=none, x=none, u="u", /, z=none', "a, b", '"n", none, a, z=b')
        self.call("", 'x="n", /', "", "")

    def test_old_defaults(self):
        self.call('x="d"', "x=none", "", 'x="d"')
        self.call('x="d"', "x", "", 'x="d"')
        self.call("x=none", "x, /", "", "none")
        self.call("x", "x=none", "a", "x=a")
        self.call('x="d"', 'x="d"', "", "")
        self.call('x="d", y="e", z="g"', 'z="d", *, y, x=none', "", 'z="g", y="e", x="d"')
        self.call('x="d", *, y, z="e"', 'x=none, *, y, z=none', "y=a", 'y=a, x="d", z="e"')

    def test_front_ones_ahead(self):
        self.call('x="d", y="e"', 'x="d", y="e", /', "y=a", '"d", a')
        self.call('x="d", y="e"', 'y="e", x="d", /', "y=a", "a")
        self.call('x="d", y="e"', 'x="d", y=none, /', "", '"d", "e"')
        self.call('x="d", y="e"', 'x="d", /, y=none', "", 'y="e"')
        self.call('x="d", y="e"', 'x="d", /, y="e"', "y=a", "y=a")
        self.call('x="d", y="e", z="g"', 'x="d", w="n", y="e", z="g", /', "y=a", '"d", "n", a')

    def test_left_out(self):
        self.turned("x, y", "x", ['return _f(a, "t")'], ["return _f(x=a)"])
        self.turned("x, y", "x", ["return _f(a, (none, (lambda: _g(a)), ()))"], ["return _f(x=a)"])
        self.turned("x, y", "x", ["return _f(a, _g(b))"], ["_va = a", "_g(b)", "return _f(x=_va)"], [((0, 1), (0, 1))])
        self.turned("x, y", "x", ['return _f("t", _g(b))'], ["_g(b)", 'return _f(x="t")'], [((0, 1), (1,))])
        self.turned("x, y", "x", ["return _f(a, b)"], ["b", "return _f(x=a)"], [((0, 1), (1,))])
        self.turned("x, y", "y", ["return _f(?p(a), ?p(b))"], ["?p(a)", "return _f(y=?p(b))"], [((0, 1), (0,))])
        self.turned("x, y", "y", ["return _f(_g(a), _g(b))"], ["_g(a)", "return _f(y=_g(b))"], [((0, 1), (0,))])
        self.turned("x, y", "", ["_f(_g(a), _g(b))"], ["_g(a)", "_g(b)", "_f()"], [((0, 1), (0, 1))])
        self.turned("x=none, y=none", "", ["_f()", "see _f(y=a)"], ["_f()", "a", "see _f()"], [((1, 1), (0,))])

    def test_done_ahead(self):
        self.turned("x, y", "y, x, /", ["return _f(_g(a), _g(b))"], ["_va = _g(a)", "return _f(_g(b), _va)"], [((0, 1), (0,))])
        self.turned("x, y", "y, x, /", ["return _f(_g(a), b)"], ["_va = _g(a)", "return _f(b, _va)"], [((0, 1), (0,))])
        self.turned("x, y", "y, x, /", ["return _f(a, _g(b))"], ["_va = a", "return _f(_g(b), _va)"], [((0, 1), (0,))])
        self.call("x, y", "y, x, /", "?p(a), ?p(b)", "?p(b), ?p(a)")
        for still in ('"t"', "none", "()", '("t", (none,))', "lambda: _g(a)", "lambda k: (_g(k), a)", "(lambda: a, none)"):
            self.turned("x, y", "y, x, /", [f"return _f(_g(a), {still})"], [f"return _f({still}, _g(a))"])
        for moved in ("a", "?p()", "(a,)", "lambda k=a: k", "lambda k=none: k", "a.x", "a if b else none", "(lambda k=none: k, none)"):
            self.turned("x, y", "y, x, /", [f"return _f(_g(a), {moved})"], ["_va = _g(a)", f"return _f({moved}, _va)"], [((0, 1), (0,))])

    def test_calls_in_lambdas(self):
        # A call in the default of a lambda is done, one in its block is not.
        self.turned("x, y", "y, x, /", ["return _f(lambda k=_g(a): k, b)"], ["_va = lambda k=_g(a): k", "return _f(b, _va)"], [((0, 1), (0,))])
        self.turned("x, y", "y, x, /", ["return _f(lambda k=a: _g(k), b)"], ["return _f(b, lambda k=a: _g(k))"])

    def test_as_little_as_can_be(self):
        # What hangs together with what is done ahead of it goes ahead, too.
        self.turned("x, y, z", "z, y, x, /", ["return _f(a, _g(b), ?p())"], ["_va = a", "_vb = _g(b)", "return _f(?p(), _vb, _va)"], [((0, 1), (0, 1))])
        self.turned("x, y, z", "x, z, y, /", ["return _f(a, _g(b), ?p())"], ["_va = a", "_vb = _g(b)", "return _f(_va, ?p(), _vb)"], [((0, 1), (0, 1))])
        self.turned("x, y, z", "x, z, y, /", ['return _f("t", _g(b), ?p())'], ["_va = _g(b)", 'return _f("t", ?p(), _va)'], [((0, 1), (1,))])
        self.turned("x, y, z", "y, x, z, /", ["return _f(_g(a), b, _g(b))"], ["_va = _g(a)", "return _f(b, _va, _g(b))"], [((0, 1), (0,))])
        self.turned("x, y, z", "y, z, x, /", ["return _f(a, b, _g(b))"], ["_va = a", "return _f(b, _g(b), _va)"], [((0, 1), (0,))])
        self.turned("x, y, z", "x, z", ["return _f(a, _g(b), ?p())"], ["_va = a", "_g(b)", "return _f(x=_va, z=?p())"], [((0, 1), (0, 1))])

    def test_statements(self):
        self.turned("x, y", "y, x, /", ["v = _f(_g(a), b)", "_f(_g(a), v)", "see _f(_g(a), b)", "return _f(_g(a), b)"],
                    ["_vd = _g(a)", "v = _f(b, _vd)", "_vc = _g(a)", "_f(v, _vc)", "_vb = _g(a)", "see _f(b, _vb)", "_va = _g(a)", "return _f(b, _va)"],
                    [((0, 2), (0,)), ((1, 1), (0,)), ((2, 1), (0,)), ((3, 1), (0,))])
        self.turned("x, y", "y, x, /", ["if a:", "    see a", "    try:", "        pass", "    except bad:", "        _f(_g(a), b)", "else:", "    see _f(_g(b), a)"],
                    ["if a:", "    see a", "    try:", "        pass", "    except bad:", "        _vb = _g(a)", "        _f(b, _vb)", "else:", "    _va = _g(b)", "    see _f(a, _va)"],
                    [((0, 2, 1, 2, 0, 2, 0, 1), (0,)), ((0, 3, 0, 1), (0,))])

    def test_names(self):
        lines = ["_va = none", "_vc = ?_vd(_va)", "_f(_g(_vc), b)", "_f(_g(_va), _g(a))", "return (_va, _vc)"]
        self.turned("x, y", "y, x, /", lines, ["_va = none", "_vc = ?_vd(_va)", "_ve = _g(_vc)", "_f(b, _ve)", "_vb = _g(_va)", "_f(_g(a), _vb)", "return (_va, _vc)"],
                    [((2, 1), (0,)), ((3, 1), (0,))])
        program = told(HELP + "def _f(x, y):\n    pass\ndef p(a, b):\n" + "    _f(_g(a), b)\n" * 30)
        late = change(program, "m", "_f", plan_of("y, x, /")).program["m"][2][3]
        names = [row[1] for row in late if row[0] == "let"]
        letters = "abcdefghijklmnopqrstuvwxyz"
        self.assertEqual(names, list(reversed([f"_v{letter}" for letter in letters] + ["_vaa", "_vab", "_vac", "_vad"])))

    def test_names_of_modules_and_plans(self):
        program = told(HELP + "def _f(x, y):\n    pass\ndef p(a, b):\n    _f(_g(a), b)\n", _va="", _vb="_vc = none\n")
        late = change(program, "m", "_f", plan_of("y, x, /, _vd=none")).program
        self.assertEqual(late["m"][2][3][0], read_module("def f():\n    _ve = _g(a)\n")[0][3][0])

    def test_within_other_calls(self):
        self.turned("x, y", "y, x, /", ["return _f(_f(a, b), ?p(_f(b, a)))"], ["_va = _f(b, a)", "return _f(?p(_f(a, b)), _va)"], [((0, 1), (0,))])
        self.turned("x, y", "y, x, /", ["return _f(_f(a, b), none)"], ["return _f(none, _f(b, a))"])
        self.turned("x, y", "y, x, /", ["v = lambda: _f(a, b)"], ["v = lambda: _f(b, a)"])

    def test_in_several_modules(self):
        program = told("from n take _k as _h\n" + HELP + "def p(a):\n    return _h(_g(a), a)\ndef _f(x, y):\n    return (x, y)\n",
                       n="use m\nfrom m take _f as _k\nclass c:\n    def get(me, a):\n        return m._f(m._g(a), y=a)\n",
                       o="use n\ndef q(a):\n    see n._k(y=a, x=a)\n    return lambda: none\n")
        program["o"] = read_module("use n\ndef q(a):\n    see n._k(y=a, x=a)\n")
        found = change(program, "m", "_f", plan_of("y, /, x"))
        self.assertEqual(found.program, told("from n take _k as _h\n" + HELP + "def p(a):\n    _vb = _g(a)\n    return _h(a, x=_vb)\ndef _f(y, /, x):\n    return (x, y)\n",
                                             n="use m\nfrom m take _f as _k\nclass c:\n    def get(me, a):\n        _va = m._g(a)\n        return m._f(a, x=_va)\n",
                                             o="use n\ndef q(a):\n    see n._k(a, x=a)\n"))
        self.assertEqual(found.puts, {("m", (2, 3, 0, 1)): (0,), ("n", (2, 3, 0, 3, 0, 1)): (0,)})
        self.assertIs(alike(program, found.program), True)

    def test_calls_in_its_own_block(self):
        program = told("def _f(x, y):\n    if y:\n        return x\n    return _f(x, y=x)\ndef p(a):\n    return _f(a, \"t\")\n")
        found = change(program, "m", "_f", plan_of("y, x, /"))
        self.assertEqual(write_module(found.program, "m"), "def _f(y, x, /):\n    if y:\n        return x\n    return _f(x, x)\ndef p(a):\n    return _f(\"t\", a)\n")
        self.assertIs(alike(program, found.program), True)

    def test_without_calls(self):
        program = told("def _f(x):\n    pass\n", n="from m take _f as _k\n")
        found = change(program, "m", "_f", ())
        self.assertEqual([found.program, found.puts], [told("def _f():\n    pass\n", n="from m take _f as _k\n"), {}])

    def test_a_name_that_means_another(self):
        program = told("def _f(x, /):\n    return x\ndef p(_f, /):\n    return (lambda x: x)(_f)\ndef q(a):\n    _h = _f(a)\n    return _h\n")
        found = change(program, "m", "_f", plan_of("*, x"))
        self.assertEqual(found.program["m"][1:2], program["m"][1:2])
        self.assertEqual(found.program["m"][2], read_module("def q(a):\n    _h = _f(x=a)\n    return _h\n")[0])


class NotGoing(unittest.TestCase):
    def is_not_plain(self, word, plan, text, name="_f", **modules):
        with self.assertRaises(NotPlain) as caught:
            change(told(text, **modules), "m", name, plan_of(plan))
        self.assertEqual(caught.exception.why, word, text)

    def test_default(self):
        for default in ("()", "?p()", "_x", '("t",)', "?p().x"):
            self.is_not_plain("default", "x", f"def _f(x={default}):\n    pass\n_x = none\n")

    def test_used(self):
        for body in ("see x", "x = none", "return (lambda: x)", "def g(k=x):\n        pass", "def g():\n        nonlocal x\n        pass", "if y:\n        pass\n    else:\n        x = y", "_f(x=y, y=y)"):
            self.is_not_plain("used", "y", f"def _f(x, y):\n    {body}\n")
        for body in ("return (lambda x: none)", "def g(x):\n        see x", "?x(y.x)", 'see "x"', "raise x"):
            change(told(f"def _f(x, y):\n    {body}\n"), "m", "_f", plan_of("y"))

    def test_name(self):
        for body in ("n = none", "return n", "return (lambda n: n)", "def g():\n        n = none", "def n():\n        pass", "try:\n        pass\n    except bad as n:\n        pass"):
            self.is_not_plain("name", "x, n=none", f"def _f(x):\n    {body}\nn = none\n")
        self.is_not_plain("name", "x, n=none", "use n\ndef _f(x):\n    return n.y\n", n="")
        for text in ("def _f(x):\n    pass\nn = none\n", "def _f(x):\n    pass\ndef p(n):\n    return n\n"):
            change(told(text), "m", "_f", plan_of("x, n=none"))

    def test_public(self):
        text = "def _f(x):\n    pass\n"
        self.is_not_plain("public", "", text, n="from m take _f as f\n")
        self.is_not_plain("public", "", text, _n="from m take _f as f\n")
        self.is_not_plain("public", "", text + "from n take _k as f\n", n="from m take _f as _k\n")
        change(told(text, n="from m take _f as _k\n"), "m", "_f", ())

    def test_value(self):
        text = "def _f(x):\n    pass\n"
        for more in ("def p(a):\n    return ?p(_f)\n", "_x = _f\n", "def p(a):\n    a = (_f, none)\n", "def p(a):\n    see _f.x\n", "def p(a):\n    a(_f)\n",
                     "def p(a):\n    a(call=_f)\n", "def p(a):\n    return lambda call=_f: none\n", "def p(a):\n    _f(x=_f)\n", "def p(a):\n    (_f if a else a)(a)\n",
                     "class _c(_f):\n    pass\n", "use m\n_x = m._f\n", "from m take _f as _k\ndef p(a):\n    _k\n"):
            self.is_not_plain("value", "", text + more)
        self.is_not_plain("value", "", text, n="use m\ndef p():\n    see m._f\n")
        self.is_not_plain("value", "", text, n="use o\ndef p():\n    o._k\n", o="from m take _f as _k\n")

    def test_call(self):
        for params, call in (("x", ""), ("x", "a, a"), ("x", "a, x=a"), ("x, /", "x=a"), ("*, x", "a"), ("x", "a, y=a"), ("x, y=none", "y=a"), ("", "a"), ("x, /, y", "a")):
            self.is_not_plain("call", "x=none", f"def _f({params}):\n    pass\ndef p(a):\n    _f({call})\n")

    def test_place(self):
        text = HELP + "def _f(x, y):\n    pass\n"
        for line in ("if _f(_g(a), a):\n        pass", "see (_f(_g(a), a),)", "for i in (_f(_g(a), a)):\n        pass", "raise bad _f(_g(a), a)", "a, b = _f(_g(a), a)", "_g(_f(_g(a), a))",
                     "return lambda: _f(_g(a), a)", "a(do=_f(_g(a), a))", "def g(let=_f(_g(a), a)):\n        pass", "a = lambda let=_f(_g(a), a): none", "each i in _f(_g(a), a):\n        pass",
                     "with _f(_g(a), a):\n        pass", "_f(_g(a), a).x", "a = _f(_g(a), a) if a else a", "a(x=none, let=_f(_g(a), a))"):
            self.is_not_plain("place", "y, x, /", text + f"def p(a):\n    {line}\n")
        self.is_not_plain("place", "y, x, /", text + "def p(a):\n    yield _f(_g(a), a)\n")
        self.is_not_plain("place", "y, x, /", text + "class c:\n    def make(me, a):\n        me.x = _f(_g(a), a)\n")
        change(told(text + "def p(a):\n    if _f(a, a):\n        pass\n"), "m", "_f", plan_of("y, x, /"))

    def test_large(self):
        text = HELP + "def _f(x, y):\n    pass\ndef p(a):\n" + "    pass\n" * 192
        change(told(text + "    _f(_g(a), a)\n"), "m", "_f", plan_of("y, x, /"))
        self.is_not_plain("large", "y, x, /", text + "    pass\n    _f(_g(a), a)\n")
        self.is_not_plain("large", "y, x, /", text.replace("def p", "def q(a):\n    _f(_g(a), a)\ndef p").replace("    pass\n" * 192, "    pass\n" * 189) + "    _f(_g(a), a)\n    _f(_g(a), a)\n")

    def test_the_words_in_order(self):
        call = "def p(a):\n    see (_f(_g(a), a),)\n    _f()\n    see _f\n"
        self.is_not_plain("default", "n=none", HELP + "def _f(x=(), y=none):\n    see (x, n)\nn = none\n" + call, o="from m take _f as f\n")
        self.is_not_plain("used", "n=none", HELP + "def _f(x, y):\n    see (n, x)\nn = none\n" + call, o="from m take _f as f\n")
        self.is_not_plain("name", "n=none", HELP + "def _f(x, y):\n    see n\nn = none\n" + call, o="from m take _f as f\n")
        self.is_not_plain("public", "n=none", HELP + "def _f(x, y):\n    pass\n" + call, o="from m take _f as f\n")
        self.is_not_plain("value", "n=none", HELP + "def _f(x, y):\n    pass\n" + call)

    def test_the_last_call_is_told_first(self):
        text = HELP + "def _f(x, y):\n    pass\ndef p(a):\n    {}\n    {}\n"
        self.is_not_plain("call", "y, x, /", text.format("see (_f(_g(a), a),)", "_f()"))
        self.is_not_plain("place", "y, x, /", text.format("_f()", "see (_f(_g(a), a),)"))
        self.is_not_plain("place", "y, x, /", text.format("_f()", "pass"), n="use m\ndef q(a):\n    see (m._f(m._g(a), a),)\n")
        self.is_not_plain("call", "y, x, /", text.format("see (_f(_g(a), a),)", "pass"), n="use m\ndef q(a):\n    m._f()\n")
        # The inner one of two calls is the later one.
        self.is_not_plain("call", "y, x, /", text.format("if _f(_g(a), _f()):\n        pass", "pass"))
        self.is_not_plain("place", "y, x, /", text.format("_f(_f(_g(a), a))", "pass"))


class Wrong(unittest.TestCase):
    def test_bad_places(self):
        program = told("def _f(x):\n    pass\ndef g():\n    def _i():\n        pass\n_x = none\nclass _c:\n    def _d(me):\n        pass\nfrom m take _f as _k\nuse _n\n", _n="")
        for module, name in (("m", "g"), ("m", "_x"), ("m", "_c"), ("m", "_k"), ("m", "_n"), ("m", "_i"), ("m", "_d"), ("m", "_no"), ("_n", "_f"), ("no", "_f"), (None, "_f"), ("m", None), (3, 4)):
            with self.assertRaises(BadPlace, msg=(module, name)):
                change(program, module, name, None)

    def test_bad_plans(self):
        program = told("def _f(x, y=()):\n    see x\n")
        x, y = ("x", "plain", None), ("y", "plain", ("none",))
        for plan in (None, [], [x, y], (["x", "plain", None],), (x, x), ("x",), (("x", "plain"),), (("x", "other", None),), (("from", "plain", ("none",)),), (y, x),
                     (("x", "plain", None), ("y", "front", None)), (("n", "plain", None),), (("x", "plain", ("tuple", ())),), (("x", "plain", ("op", "p", ())),),
                     (("x", "plain", ("text", "A")),), (("x", "plain", "none"),), (("x", "plain", ("lambda", (), ("none",))),), (("x", "plain", ("name", "x")),), ("xyz",)):
            with self.assertRaises(BadPlan, msg=plan):
                change(program, "m", "_f", plan)
        for kind in (BadPlan, BadPlace, NotPlain):
            self.assertTrue(issubclass(kind, PartsError))
        with self.assertRaises(NotPlain):
            change(program, "m", "_f", (x, y))

    def test_bad_programs(self):
        with self.assertRaises(BadProgram):
            change({"m": None}, None, None, None)

    def test_a_change(self):
        program, puts = {"m": ()}, {("m", (0,)): (1,)}
        made = Change(program, puts)
        program.clear()
        puts.clear()
        self.assertEqual([made.program, made.puts], [{"m": ()}, {("m", (0,)): (1,)}])
        self.assertTrue(made == Change({"m": ()}, {("m", (0,)): (1,)}))
        for other in (Change({"m": ()}, {}), Change({"n": ()}, made.puts), None, made.program):
            self.assertFalse(made == other)
        made.puts = {}
        self.assertTrue(made == Change({"m": ()}, {}))

    def test_arguments_and_answers(self):
        text = HELP + "def _f(x, y):\n    pass\ndef p(a):\n    _f(_g(a), a)\n"
        program = told(text)
        found = change(program, "m", "_f", plan_of("y, x, /"))
        kept = change(program, "m", "_f", plan_of("y, x, /"))
        self.assertEqual(found, kept)
        found.program.clear()
        found.puts.clear()
        self.assertEqual(program, told(text))
        self.assertEqual(change(program, "m", "_f", plan_of("y, x, /")), kept)
        self.assertFalse(hasattr(found, "shows"))


class ByChance(unittest.TestCase):
    def test_alike_and_as_little_as_can_be(self):
        many = {}
        for seed in range(220):
            program, chance = calling_program(seed)
            if program is None or alike(program, program) is None:
                continue
            for _ in range(4):
                plan = chance.plan()
                try:
                    found = change(program, "m", "_f", plan)
                except NotPlain as error:
                    many[error.why] = many.get(error.why, 0) + 1
                    continue
                self.assertIs(alike(program, found.program), True)
                self.look_at_puts(program, chance.params, plan, found.puts)
                many["puts" if found.puts else "goes"] = many.get("puts" if found.puts else "goes", 0) + 1
        for word in ("puts", "goes", "place", "call"):
            self.assertGreater(many.get(word, 0), 10, many)

    def look_at_puts(self, program, params, plan, puts):
        """See that no way of doing has less done ahead, for those calls that are all of a statement."""
        for module, path in calls_in(program):
            given = given_by(part(program[module], path), params)
            fronts = [row[0] for row in plan if row[1] == "front"]
            others = {row[0] for row in plan if row[1] != "front"}
            names = [name for name, _ in given]
            order = [names.index(name) for name in fronts if name in names] + [at for at, name in enumerate(names) if name in others]
            for many in range(len(given) + 1):
                good = [row for row in itertools.combinations(range(len(given)), many) if goes([told for _, told in given], order, row)]
                if good:
                    break
            self.assertEqual(good, [puts.get((module, path), ())])


def calls_in(program):
    found = []

    def look(module, thing, path):
        if isinstance(thing, tuple):
            if len(thing) == 4 and thing[0] == "call" and thing[1] in (("name", "_f"), ("name", "_k"), ("attr", ("name", "m"), "_f")):
                found.append((module, path))
            for at, inner in enumerate(thing):
                look(module, inner, (*path, at))

    for module in program:
        look(module, program[module], ())
    return found


def given_by(call, params):
    return list(zip([row[0] for row in params if row[1] != "only"], call[2])) + list(call[3])


def is_still(told_of):
    if told_of[0] == "tuple":
        return all(is_still(inner) for inner in told_of[1])
    return told_of[0] in ("text", "none") or (told_of[0] == "lambda" and all(row[2] is None for row in told_of[1]))


def calls(told_of):
    if not isinstance(told_of, tuple):
        return False
    if told_of[:1] == ("call",):
        return True
    return any(calls(inner) for inner in (told_of[1] if told_of[:1] == ("lambda",) else told_of))


def goes(exprs, order, ahead):
    """Whether all is done in an order that goes, if some is done ahead."""
    late = [*ahead, *[at for at in order if at not in ahead]]
    if not all(at in late or is_still(exprs[at]) for at in range(len(exprs))):
        return False
    if any(is_still(exprs[at]) and at not in order for at in ahead):
        return False
    for at, one in enumerate(late):
        for other in late[at + 1:]:
            hang = (calls(exprs[one]) and not is_still(exprs[other])) or (calls(exprs[other]) and not is_still(exprs[one]))
            if hang and other < one:
                return False
    return True


if __name__ == "__main__":
    unittest.main()
