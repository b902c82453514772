/- What the law on numbers imports. -/
import Derived.Test.YtoekjofilcehoaaDoorPathMath2
import Derived.Test.YtoekjofilcehoaaDoorPathNum
import Derived.WalkLawsBesides
