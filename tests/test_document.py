"""The examples of the document, as they stand there."""

import unittest

from nestprops.errors import NoDeed, NoText

EXAMPLES = r"""
    >>> from nestprops.rules import AtLeast, Needs
    >>> rule = AtLeast(2, Needs('a'), Needs('b'), Needs('c')) | Needs('d')
    >>> rule.least
    (('d',), ('a', 'b'), ('a', 'c'), ('b', 'c'))
    >>> rule.turned.least
    (('a', 'b', 'd'), ('a', 'c', 'd'), ('b', 'c', 'd'))

    >>> from nestprops.rules import Rule
    >>> from nestprops.ruletexts import show_rule
    >>> show_rule(Rule.read('2 of ( a , b , always )'))
    'any ( a , b )'
    >>> Rule.read('all ( a , )')
    raises NoText(at=4)

    >>> from nestprops.plans import Plan
    >>> ARCH = Plan.read('x : all ( y , z )\ny : all ( x , z )\nz : all ( x , y )')
    >>> HUT = Plan.read('base : always\nleft : all ( base , right )\nright : all ( base , left )\nroof : all ( left , right )')
    >>> HUT.rule('roof').least
    (('left', 'right'),)

    >>> from nestprops.yards import Yard
    >>> yard = Yard(HUT, ['roof', 'base', 'left'])
    >>> (yard.parts, yard.stands, yard.rest.parts)
    (('base', 'left', 'roof'), False, ('base',))
    >>> yard.supported(['left'])
    ('base', 'left', 'right')

    >>> from nestprops.strikes import least_strikes
    >>> least_strikes(Yard(HUT, HUT.names), 'roof')
    (('base',), ('left',), ('right',), ('roof',))

    >>> from nestprops.scripts import run
    >>> run(Yard(ARCH), [('prop', 'x'), ('put', 'x'), ('prop', 'y'), ('put', 'y'), ('put', 'z'), ('unprop',), ('unprop',)]).parts
    ('x', 'y', 'z')
    >>> run(Yard(ARCH), [('prop', 'x'), ('put', 'x'), ('unprop',)])
    raises NoDeed(at=2)

    >>> from nestprops.growth import grown
    >>> (grown(Yard(ARCH)).parts, grown(Yard(ARCH), depth=1).parts, grown(Yard(ARCH), depth=2).parts)
    ((), (), ('x', 'y', 'z'))
    >>> grown(Yard(HUT), depth=1).parts
    ('base', 'left', 'right', 'roof')

    >>> from nestprops.joined import bar_holds, depth_between
    >>> depth_between(Yard(ARCH), Yard(ARCH, ARCH.names))
    2
    >>> table = (((), ()), (('x',), ('x',)), (('y',), ('y',)), (('z',), ('z',)))
    >>> bar_holds(Yard(ARCH), Yard(ARCH, ARCH.names), 1, table)
    True

    >>> from nestprops.lots import depth_text
    >>> depth_text([Yard(HUT), Yard(HUT, ['base']), Yard(HUT, HUT.names)])
    'none                  0  0  1\nbase                  0  0  1\nbase left right roof  1  1  0'

    >>> from nestprops.sites import Site
    >>> site = Site(Yard(ARCH))
    >>> site.within('x', [('put', 'x'), ('prop', 'y'), ('put', 'y'), ('put', 'z')])
    ()
    >>> site.yard.parts
    ('x', 'y', 'z')
    >>> site.strike('y')
    ('x', 'y', 'z')
"""


def examples():
    """Return the examples in order, each a pair: a row of code, and what it shows, or None."""
    found = []
    for row in [row.strip() for row in EXAMPLES.split("\n") if row.strip()]:
        if row.startswith(">>> "):
            found.append((row[4:], None))
        else:
            found[-1] = (found[-1][0], row)
    return found


def shown(code, names):
    """Return what a row of code shows."""
    try:
        return repr(eval(code, names))
    except (NoText, NoDeed) as error:
        return f"raises {type(error).__name__}(at={error.at})"


class TestExamples(unittest.TestCase):
    def test_each_one(self):
        names = {}
        for code, expected in examples():
            if expected is None:
                exec(code, names)
            else:
                self.assertEqual(shown(code, names), expected, code)
        self.assertEqual(len([one for one in examples() if one[1] is not None]), 18)


if __name__ == "__main__":
    unittest.main()
