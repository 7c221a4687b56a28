/- What the frames of this package use. -/
import Derived.Test.YtamagcffcepaeaaDoorMlaid
import Derived.Test.YtamagcffcepaeaaDoorOpenI
