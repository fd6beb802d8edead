"""Whether floors hold, and whether derivations are such."""

from earlyfields.bounds import check_judged
from earlyfields.floorclaims import FloorClaim
from earlyfields.seenclaims import SeenClaim
from earlyfields.solved import open_keys
from earlyfields.worlds import Model


def is_floor(family, thing, *, sealed=()):
    """Whether any value is a floor that holds, where heirs leave the sealed keys alone."""
    orders = check_judged(family, sealed)
    claim = FloorClaim(Model(family, open_keys(family, sealed), False), orders)
    return claim.read(thing) and claim.holds()


def is_derivation(family, thing, *, sealed=()):
    """Whether any value is a derivation, where heirs leave the sealed keys alone."""
    orders = check_judged(family, sealed)
    return SeenClaim(Model(family, open_keys(family, sealed), True), orders).read(thing)
