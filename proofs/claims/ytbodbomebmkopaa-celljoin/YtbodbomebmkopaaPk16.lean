/- What the program's cells do: all of it. -/
import Derived.Test.YtbodbomebmkopaaPd16
import Derived.Test.YtbodbomebmkopaaPg16
import Derived.Test.YtbodbomebmkopaaPh16
