"""What the names of a program must keep, told by what was seen of its modules."""


def faults_of(looker, tops):
    """The numbers of the statements of a module that are not as they must be."""
    found = list(looker.faults)
    for number, statement in looker.rows.values():
        if not names_what_is_there(tops, statement):
            found.append(number)
    put_faults_of_names(looker.module, looker.top, tops, found)
    for scope in looker.scopes:
        if scope.beyond:
            put_faults_of_nonlocal(scope, found)
        put_faults_of_names(looker.module, scope, tops, found)
    return found


def names_what_is_there(tops, statement):
    if statement[0] == "use":
        return statement[1] in tops.rows
    if statement[0] == "take":
        return tops.has(statement[1], statement[2])
    return True


def put_faults_of_nonlocal(scope, found):
    """Put the number of a function, if it names something by nonlocal that it cannot."""
    for name in scope.beyond:
        owner = scope.around.owner(name)
        if owner is None or name in scope.params or (owner.kept == name and name in scope.given):
            found.append(scope.number)


def put_faults_of_names(module, scope, tops, found):
    """Put the numbers of statements in which names are used that mean nothing, or a use that stands alone."""
    for name, number in scope.alone.items():
        if name not in scope.own and scope.owner(name) is None:
            if not tops.has(module, name) or tops.means(module, name, "use"):
                found.append(number)
    for name, number in scope.firsts.items():
        if name not in scope.own and scope.owner(name) is None and not tops.has(module, name):
            found.append(number)
