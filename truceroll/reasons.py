"""The least reasons for a wish, the least sets to be given up for it, and how it stands."""

from truceroll.crossings import crossings_of
from truceroll.truces import Truce


def reasons_for(firm, heap, wish):
    return truce_against(firm, heap, wish).clashes()


def retreats_from(firm, heap, wish):
    return crossings_of(reasons_for(firm, heap, wish))


def standing_of(firm, heap, wish):
    against = truce_against(firm, heap, wish)
    peaces = Truce(firm, heap).peaces()
    return (len([peace for peace in peaces if not against.is_peaceful(peace)]), len(peaces))


def truce_against(firm, heap, wish):
    # A set is enough for the wish just where it clashes once the wish is denied.
    return Truce(firm + [("not", wish)], heap)
