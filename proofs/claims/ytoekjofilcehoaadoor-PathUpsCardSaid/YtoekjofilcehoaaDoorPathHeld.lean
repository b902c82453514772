/- What a law with a drawn region imports. -/
import Derived.Test.YtoekjofilcehoaaDoorPathMath2
import Derived.Deep.RegionHeld3
