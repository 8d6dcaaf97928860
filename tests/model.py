"""A second way of doing programs, for tests: with Python's own calls, generators and finals.

It shares no code with the package, and is slower and deeper; both must see the same.
"""


class Raised(Exception):
    def __init__(self, kind, value):
        self.kind = kind
        self.value = value


class Returned(Exception):
    def __init__(self, value):
        self.value = value


class Closed(Exception):
    pass


class Stopped(Exception):
    """Ring or Handed."""


NONE = ("none",)


def wrong():
    return Raised("wrong", NONE)


class Fun:
    def __init__(self, place, number, params, body, env, defaults):
        self.place = place
        self.number = number
        self.params = params
        self.body = body
        self.env = env
        self.defaults = defaults


class Met:
    def __init__(self, thing, fun):
        self.thing = thing
        self.fun = fun


class Cls:
    def __init__(self, module, statement, number):
        self.module = module
        self.statement = statement
        self.number = number


class Obj:
    def __init__(self, cls):
        self.cls = cls
        self.fields = {}


class Gen:
    def __init__(self, fun):
        self.fun = fun
        self.going = None
        self.state = "new"


class Mod:
    def __init__(self, name):
        self.name = name


def count(statement):
    return 1 + sum(count(s) for block in blocks(statement) for s in block)


def blocks(statement):
    kind = statement[0]
    if kind in ("def", "class", "for", "each", "with"):
        return [statement[3]]
    if kind == "if":
        return [statement[2], statement[3]]
    if kind == "try":
        return [statement[1]] + [h[2] for h in statement[2]] + [statement[3]]
    return []


def level(block):
    for statement in block:
        yield statement
        if statement[0] != "def":
            for inner in blocks(statement):
                yield from level(inner)


def gives(statement):
    kind = statement[0]
    if kind in ("let", "for", "each", "def"):
        return [statement[1]]
    if kind == "unpack":
        return list(statement[1])
    if kind == "with":
        return [statement[2]] if statement[2] else []
    if kind == "try":
        return [h[1] for h in statement[2] if h[1]]
    return []


def plain(value):
    if not isinstance(value, tuple):
        return False
    return all(plain(v) for v in value[1]) if value[0] == "tuple" else True


def keepable(value):
    if isinstance(value, Obj):
        return True
    if isinstance(value, tuple) and value[0] == "tuple":
        return all(keepable(v) for v in value[1])
    return isinstance(value, tuple)


class Env:
    def __init__(self, own, around, module):
        self.own = dict.fromkeys(own)
        self.around = around
        self.module = module

    def holder(self, name):
        env = self
        while env is not None and name not in env.own:
            env = env.around
        return env


class Model:
    def __init__(self, program, world):
        self.program = program
        self.world = world
        self.events = []
        self.doing = []
        self.lets = []

    # --- names of tops

    def top(self, module, name):
        number = 0
        for statement in self.program.get(module, ()):
            given = statement[3] if statement[0] == "take" else statement[1]
            if given == name:
                return statement, number
            number += count(statement)
        return None, None

    def meant(self, module, name, passed=()):
        if (module, name) in passed:
            return None
        statement, number = self.top(module, name)
        if statement is None:
            return None
        if statement[0] == "take":
            return self.meant(statement[1], statement[2], passed + ((module, name),))
        return module, statement, number

    def top_value(self, module, name):
        found = self.meant(module, name)
        if found is None:
            raise wrong()
        home, statement, number = found
        if statement[0] == "use":
            return Mod(statement[1])
        if statement[0] == "class":
            return Cls(home, statement, number)
        if statement[0] == "def":
            return self.top_fun(home, statement, number)
        return self.let(home, statement, ("top", home, statement[1]))

    def top_fun(self, module, statement, number):
        return Fun((module, number), number, statement[2], statement[3], Env((), None, module), None)

    def let(self, module, statement, key):
        if key in self.lets:
            raise wrong()
        self.lets.append(key)
        try:
            return self.ev(statement[2], Env((), None, module), None)
        finally:
            self.lets.pop()

    # --- classes

    def base(self, cls, told):
        if told[0] == "name":
            found = self.meant(cls.module, told[1])
        else:
            found = self.meant(cls.module, told[1][1])
            if found is None or found[1][0] != "use":
                raise wrong()
            found = self.meant(found[1][1], told[2])
        if found is None or found[1][0] != "class":
            raise wrong()
        return Cls(*found)

    def look(self, cls, name, way=()):
        key = (cls.module, cls.statement[1])
        if key in way:
            raise wrong()
        number = cls.number + 1
        for statement in cls.statement[3]:
            if statement[0] != "pass" and statement[1] == name:
                return cls, statement, number
            number += count(statement)
        for told in cls.statement[2]:
            found = self.look(self.base(cls, told), name, way + (key,))
            if found is not None:
                return found
        return None

    def member(self, cls, name, thing):
        found = self.look(cls, name)
        if found is None:
            raise wrong()
        home, statement, number = found
        if statement[0] == "let":
            return self.let(home.module, statement, ("class", home.module, home.statement[1], name))
        fun = self.top_fun(home.module, statement, number)
        return fun if thing is None else Met(thing, fun)

    # --- expressions

    def truth(self, value):
        if not isinstance(value, tuple):
            return True
        if value[0] == "number":
            return value[1] in self.world.truths
        return value != NONE and len(value[1]) > 0

    def op(self, name, values):
        if not all(plain(v) for v in values):
            raise wrong()
        return ("number", self.world.table.get((name, tuple(values)), 0))

    def ev(self, told, env, number):
        return getattr(self, "ev_" + told[0])(told, env, number)

    def ev_none(self, told, env, number):
        return NONE

    def ev_text(self, told, env, number):
        return told

    def ev_name(self, told, env, number):
        holder = env.holder(told[1])
        if holder is None:
            return self.top_value(env.module, told[1])
        if holder.own[told[1]] is None:
            raise wrong()
        return holder.own[told[1]]

    def ev_tuple(self, told, env, number):
        return ("tuple", tuple(self.ev(e, env, number) for e in told[1]))

    def ev_op(self, told, env, number):
        return self.op(told[1], [self.ev(e, env, number) for e in told[2]])

    def ev_choice(self, told, env, number):
        return self.ev(told[2] if self.truth(self.ev(told[1], env, number)) else told[3], env, number)

    def ev_attr(self, told, env, number):
        return self.attr(self.ev(told[1], env, number), told[2])

    def attr(self, value, name):
        if isinstance(value, Obj):
            if name in value.fields:
                return value.fields[name]
            return self.member(value.cls, name, value)
        if isinstance(value, Cls):
            return self.member(value, name, None)
        if isinstance(value, Mod):
            return self.top_value(value.name, name)
        if isinstance(value, tuple) and value[0] == "number":
            return self.op("." + name, [value])
        raise wrong()

    def ev_call(self, told, env, number):
        called = self.ev(told[1], env, number)
        args = [self.ev(e, env, number) for e in told[2]]
        named = [(n, self.ev(e, env, number)) for n, e in told[3]]
        return self.call(called, args, named)

    def ev_lambda(self, told, env, number):
        defaults = {p[0]: self.ev(p[2], env, number) for p in told[1] if p[2]}
        # The same tuple may stand at two places, so its place would not do; programs of tests avoid that.
        return Fun((env.module, number, id(told)), number, told[1], told[2], env, defaults)

    def call(self, called, args, named):
        if isinstance(called, Met):
            return self.call(called.fun, [called.thing] + args, named)
        if isinstance(called, Cls):
            thing = Obj(called)
            found = self.look(called, "make")
            if found is None:
                if args or named:
                    raise wrong()
                return thing
            self.call(self.member(called, "make", thing), args, named)
            return thing
        if not isinstance(called, Fun):
            raise wrong()
        return self.call_fun(called, args, named)

    def call_fun(self, fun, args, named):
        names = {}
        places = [p for p in fun.params if p[1] in ("front", "plain")]
        if len(args) > len(places):
            raise wrong()
        for row, value in zip(places, args):
            names[row[0]] = value
        for name, value in named:
            rows = [p for p in fun.params if p[0] == name and p[1] != "front"]
            if not rows or name in names:
                raise wrong()
            names[name] = value
        left = [p for p in fun.params if p[0] not in names]
        if any(p[2] is None for p in left):
            raise wrong()
        self.see_no_ring(fun)
        for row in left:
            if fun.defaults is None:
                names[row[0]] = self.ev(row[2], fun.env, fun.number)
            else:
                names[row[0]] = fun.defaults[row[0]]
        return self.do_fun(fun, names)

    def see_no_ring(self, fun):
        if fun.place in self.doing:
            raise Stopped("ring", fun.place[0], fun.number)

    def do_fun(self, fun, names):
        if isinstance(fun.body[0], str):
            env = Env([p[0] for p in fun.params], fun.env, fun.env.module)
            env.own.update(names)
            self.doing.append(fun.place)
            try:
                return self.ev(fun.body, env, fun.number)
            finally:
                self.doing.pop()
        rows = list(level(fun.body))
        own = [p[0] for p in fun.params] + [n for s in rows for n in gives(s)]
        beyond = [n for s in rows if s[0] == "nonlocal" for n in s[1]]
        env = Env([n for n in own if n not in beyond], fun.env, fun.env.module)
        env.own.update(names)
        if any(s[0] == "yield" for s in rows):
            gen = Gen(fun)
            gen.going = self.block(fun.body, env, fun.number + 1, gen)
            return gen
        self.doing.append(fun.place)
        try:
            for _ in self.block(fun.body, env, fun.number + 1, None):
                raise AssertionError
            return NONE
        except Returned as e:
            return e.value
        finally:
            self.doing.pop()

    # --- generators

    def step(self, gen):
        """The next value in a list, or an empty list at the end."""
        self.see_no_ring(gen.fun)
        gen.state = "busy"
        self.doing.append(gen.fun.place)
        try:
            return [next(gen.going)]
        except (StopIteration, Returned):
            gen.state = "done"
            return []
        except Exception:
            gen.state = "done"
            raise
        finally:
            self.doing.pop()

    def close(self, gen):
        if gen.state == "done":
            return
        gen.state = "closing"
        self.doing.append(gen.fun.place)
        try:
            gen.going.throw(Closed())
            raise AssertionError
        except (StopIteration, Returned, Closed):
            pass
        finally:
            gen.state = "done"
            self.doing.pop()

    # --- statements

    def block(self, block, env, number, gen):
        for statement in block:
            yield from getattr(self, "do_" + statement[0])(statement, env, number, gen)
            number += count(statement)

    def give(self, env, name, value):
        env.holder(name).own[name] = value

    def do_let(self, s, env, number, gen):
        self.give(env, s[1], self.ev(s[2], env, number))
        yield from ()

    def do_unpack(self, s, env, number, gen):
        value = self.ev(s[2], env, number)
        if not isinstance(value, tuple) or value[0] != "tuple" or len(value[1]) != len(s[1]):
            raise wrong()
        for name, part in zip(s[1], value[1]):
            self.give(env, name, part)
        yield from ()

    def do_set(self, s, env, number, gen):
        value = self.ev(s[3], env, number)
        thing = self.ev(s[1], env, number)
        if not keepable(value):
            raise wrong()
        thing.fields[s[2]] = value
        yield from ()

    def do_if(self, s, env, number, gen):
        if self.truth(self.ev(s[1], env, number)):
            yield from self.block(s[2], env, number + 1, gen)
        else:
            yield from self.block(s[3], env, number + 1 + sum(count(x) for x in s[2]), gen)

    def do_for(self, s, env, number, gen):
        for value in [self.ev(e, env, number) for e in s[2]]:
            self.give(env, s[1], value)
            yield from self.block(s[3], env, number + 1, gen)

    def do_each(self, s, env, number, gen):
        value = self.ev(s[2], env, number)
        if not isinstance(value, Gen) or value.state in ("busy", "closing"):
            raise wrong()
        while value.state != "done":
            for item in self.step(value):
                self.give(env, s[1], item)
                try:
                    yield from self.block(s[3], env, number + 1, gen)
                except (Raised, Returned, Closed):
                    self.close(value)
                    raise

    def do_return(self, s, env, number, gen):
        yield from ()
        raise Returned(NONE if s[1] is None else self.ev(s[1], env, number))

    def do_yield(self, s, env, number, gen):
        value = self.ev(s[1], env, number)
        if gen.state == "closing":
            raise wrong()
        yield value

    def do_raise(self, s, env, number, gen):
        yield from ()
        raise Raised(s[1], NONE if s[2] is None else self.ev(s[2], env, number))

    def do_try(self, s, env, number, gen):
        try:
            try:
                yield from self.block(s[1], env, number + 1, gen)
            except Raised as e:
                at = number + 1 + sum(count(x) for x in s[1])
                for kind, name, block in s[2]:
                    if kind in ("any", e.kind):
                        if name:
                            self.give(env, name, e.value)
                        yield from self.block(block, env, at, gen)
                        break
                    at += sum(count(x) for x in block)
                else:
                    raise
        except (Raised, Returned, Closed):
            yield from self.last(s, env, number, gen)
            raise
        else:
            yield from self.last(s, env, number, gen)

    def last(self, s, env, number, gen):
        at = number + count(s) - sum(count(x) for x in s[3])
        yield from self.block(s[3], env, at, gen)

    def do_with(self, s, env, number, gen):
        thing = self.ev(s[1], env, number)
        if not isinstance(thing, Obj):
            raise wrong()
        enter = self.attr(thing, "enter")
        leave = self.attr(thing, "leave")
        value = self.call(enter, [], [])
        if s[2]:
            self.give(env, s[2], value)
        try:
            yield from self.block(s[3], env, number + 1, gen)
        except Raised as e:
            self.call(leave, [("text", e.kind)], [])
            raise
        except (Returned, Closed):
            self.call(leave, [NONE], [])
            raise
        else:
            self.call(leave, [NONE], [])

    def do_def(self, s, env, number, gen):
        defaults = {p[0]: self.ev(p[2], env, number) for p in s[2] if p[2]}
        self.give(env, s[1], Fun((env.module, number), number, s[2], s[3], env, defaults))
        yield from ()

    def do_nonlocal(self, s, env, number, gen):
        yield from ()

    def do_pass(self, s, env, number, gen):
        yield from ()

    def do_see(self, s, env, number, gen):
        value = self.ev(s[1], env, number)
        if not plain(value):
            raise Stopped("handed", "see")
        self.events.append(("see", value))
        yield from ()

    def do_do(self, s, env, number, gen):
        self.ev(s[1], env, number)
        yield from ()

    # --- outside

    def inputs(self, front, many, names):
        args = [("number", self.world.inputs.get(front + str(at), 0)) for at in range(many)]
        return args, [(n, ("number", self.world.inputs.get(front + n, 0))) for n in names]

    def use(self, use):
        found = self.meant(use[1], use[2])
        if use[0] == "read":
            words = {"def": "function", "class": "class", "use": "module"}
            if found is not None and found[1][0] in words:
                return (words[found[1][0]],)
            return self.top_value(use[1], use[2])
        if found is None or found[1][0] != {"call": "def", "method": "class"}[use[0]]:
            raise wrong()
        value = self.call(self.top_value(use[1], use[2]), *self.inputs("", use[3], use[4]))
        if use[0] == "method":
            made = self.look(value.cls, use[5])
            if made is None or made[1][0] != "def":
                raise wrong()
            value = self.call(self.member(value.cls, use[5], value), *self.inputs(".", use[6], use[7]))
        return value

    def hand(self, kind, value):
        if not plain(value):
            raise Stopped("handed", kind)
        self.events.append((kind, value))

    def seen(self, use):
        try:
            value = self.use(use)
            if isinstance(value, Gen):
                self.events.append(("back", ("generator",)))
                self.outside(value)
                self.events.append(("end",))
            elif value in (("function",), ("class",), ("module",)):
                self.events.append(("back", value))
            else:
                self.hand("back", value)
        except Raised as e:
            if not plain(e.value):
                raise Stopped("handed", "raise")
            self.events.append(("raise", e.kind, e.value))
        return self.events

    def outside(self, gen):
        many = 0
        while self.world.stop is None or many < self.world.stop:
            if gen.state == "done":
                return
            items = self.step(gen)
            if not items:
                return
            self.hand("yield", items[0])
            many += 1
        if many:
            self.close(gen)
