-- MADE BY PROGRAM (checked-in-parts.mjs) out of YtkpecibbpogedaaChecked.lean: the equation that is no list of items.
import Derived.Test.YtkpecibbpogedaaProg
import Derived.KernelRfl
import Derived.Items
import Derived.PartsItems
import Derived.CheckFast
import Derived.HeadItems
import GoSem.Claims
import Derived.Test.YtkpecibbpogedaaCheckedPd
namespace Go.Proofs
theorem Try.el.bare : (Elab.partsBare Try.src).toList = Try.bare := by kernel_rfl
end Go.Proofs
