"""What several test files need."""

from anytwo.errors import Refused


def refusal(function, *args, **more):
    """The name of the error that the call raises, and its what; None if it raises none."""
    try:
        function(*args, **more)
    except Refused as error:
        return (error.__class__.__name__, error.what)
    return None


def deep(depth, core=()):
    """A tuple nested so deep."""
    for _ in range(depth):
        core = (core,)
    return core


def odd_values():
    """Values of all kinds that judges may be asked, none of them a program, a rule or a table but ()."""
    huge = 10 ** 5000
    return [
        None, True, False, 0, 1, -1, huge, -huge, "", "a", "new", "x" * 1000,
        (), (None,), (True,), (0,), ("",), ("new",), ((),), (((),),),
        deep(99), deep(99, "a"), deep(99, None), ("loop", deep(98)),
        ((),) * 99999, (None,) * 99999, ("a",) * 99999, (0,) * 99999,
        (deep(98),) * 1000, ("then", deep(98), deep(98)), ("star", ("star", huge)),
        (("loop", huge),), (("loop", "body"),), (("new", True),), (("do", huge, "a"),), ((huge,),),
        ("any", ()), ("not",), ("nothing", "any"), (None, None), ((), ()), (((0,) * 17,), (0,)),
    ]
