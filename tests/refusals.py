"""What a call is refused with, and all that an object tells."""

import unittest

from heardalike.errors import HeardError


def refusal(call, *places, **names):
    """The refusal of a call; None where it isn't refused."""
    try:
        call(*places, **names)
    except HeardError as error:
        return error
    return None


def kept(one):
    """What a copy has kept: all else is told of it."""
    return repr([one.name(), one.among(), one.log(), one.deeds(), one.ground(), one.paper() if hasattr(one, "paper") else None])


def all_told(one):
    """All that a copy tells."""
    told = [kept(one), one.stands(), one.waits(), one.counts(), one.shown(), one.known(), one.told()]
    return repr([*told, one.line() if hasattr(one, "line") else None])


class Refusing(unittest.TestCase):
    def refused(self, one, kind, fields, call, *places, **names):
        """The call is refused so, and changes nothing."""
        ahead = kept(one)
        error = refusal(call, *places, **names)
        self.assertEqual(type(error).__name__, kind)
        told = vars(error)
        self.assertEqual(sorted(told), sorted(fields))
        for field in fields:
            if field == "path":
                self.assertIs(type(told[field]), list)
                self.assertIsNot(told[field], fields[field])
                self.assertEqual([id(step) for step in told[field]], [id(step) for step in fields[field]])
            elif told[field] is not fields[field]:
                self.assertEqual((type(told[field]), told[field]), (type(fields[field]), fields[field]))
        self.assertEqual(kept(one), ahead)
