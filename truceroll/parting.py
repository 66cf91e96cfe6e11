"""Where two truces part: the first set that clashes in just one of them."""

from truceroll.errors import OtherLabels
from truceroll.sets import in_order


def parting_of(one, other):
    if one.labels() != other.labels():
        raise OtherLabels("the truces have other labels")
    # All that comes ahead of the first such set clashes in both or in neither, so it is a least clash.
    mine = [part for part in one.clashes() if other.is_peaceful(part)]
    yours = [part for part in other.clashes() if one.is_peaceful(part)]
    parted = in_order(mine + yours)
    if parted == []:
        return ("alike",)
    return ("one" if parted[0] in mine else "other", parted[0])
