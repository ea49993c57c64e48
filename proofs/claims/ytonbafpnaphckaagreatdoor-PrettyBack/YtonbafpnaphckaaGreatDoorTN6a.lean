/- N6a -/
import Derived.Test.YtonbafpnaphckaaGreatDoorTN1

