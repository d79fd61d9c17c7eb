/-
  Package mask: what is wanted of it.
-/
import Derived.Test.YtlmepjpkaionbaaDoorMaskG
import Derived.Test.YtlmepjpkaionbaaDoorMaskH
