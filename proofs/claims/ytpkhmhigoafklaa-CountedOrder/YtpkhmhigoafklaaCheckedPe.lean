-- MADE BY PROGRAM (checked-in-parts.mjs) out of YtpkhmhigoafklaaChecked.lean: the equation that is no list of items.
import Derived.Test.YtpkhmhigoafklaaProg
import Derived.KernelRfl
import Derived.Items
import Derived.PartsItems
import Derived.CheckFast
import Derived.HeadItems
import GoSem.Claims
import Derived.Test.YtpkhmhigoafklaaCheckedPd
namespace Go.Proofs
theorem Try.el.bare : (Elab.partsBare Try.src).toList = Try.bare := by kernel_rfl
end Go.Proofs
