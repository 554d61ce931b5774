-- MADE BY PROGRAM (checked-in-parts.mjs) out of YtpkhmhigoafklaaChecked.lean: the one definition on which the parts' items lean.
import Derived.Test.YtpkhmhigoafklaaProg
import Derived.KernelRfl
import Derived.Items
import Derived.PartsItems
import Derived.CheckFast
import Derived.HeadItems
import GoSem.Claims
namespace Go.Proofs
noncomputable def Try.bare : List (FuncDecl × Elab.Part) := Try.parts.map fun p => (p.1, p.2.split.2)
end Go.Proofs
