import Derived.Test.YtckmppkdpnhodaaGreatDoorT17
set_option maxRecDepth 100000
set_option maxHeartbeats 8000000
set_option linter.unusedVariables false
set_option linter.unusedSimpArgs false
namespace Go.Proofs.YtckmppkdpnhodaaGreatDoor
open Go.RowKit Go.Proofs Go.MuLone
theorem fu.lock{w:World}(h:fu w){rb:Nat}(hr:rb≠3)(v:Value)(o:Nat):fu (w.setCell ⟨rb,o,none⟩ v):=by
 unfold fu Lib.TabIs World.var? at h ⊢;rw[Tryz.Bi]at h ⊢
 simp only[Option.bind_some]at h ⊢;rw[Below.heap_setCell _ _ _ _ (fun e=>hr e.symm)];exact h
end Go.Proofs.YtckmppkdpnhodaaGreatDoor
