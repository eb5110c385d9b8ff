/- What the walks lean on. Conditions: none. -/
import Derived.Test.YtlnnblfkigcipaaDoorBase
import Derived.Test.YtlnnblfkigcipaaDoorPlain
import Derived.WalkLawsBesides
import Derived.WalkSpells
