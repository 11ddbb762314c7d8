import Derived.Test.YtckmppkdpnhodaaGreatDoorT16
set_option maxRecDepth 100000
set_option maxHeartbeats 8000000
set_option linter.unusedVariables false
set_option linter.unusedSimpArgs false
open Go.World renaming cell?_of_block→CE
open Go.RowKit.Below renaming heap_setCell→CD
namespace Go.Proofs.YtckmppkdpnhodaaGreatDoor
open Go.RowKit Go.Proofs Go.MuLone
variable {v:Value}
theorem dS(w:World)(eb:Nat)(v0 v1 v2 v3 v4 v5 v6 v7 v8 v9:Value)(b o:Nat)(h:b≠eb)(hv:w.cell? ⟨b,o,none⟩=some v):((((((((((w.setCell ⟨eb,0,none⟩ v0).setCell ⟨eb,1,none⟩ v1).setCell ⟨eb,2,none⟩ v2).setCell ⟨eb,3,none⟩ v3).setCell ⟨eb,4,none⟩ v4).setCell ⟨eb,5,none⟩ v5).setCell ⟨eb,6,none⟩ v6).setCell ⟨eb,7,none⟩ v7).setCell ⟨eb,8,none⟩ v8).setCell ⟨eb,9,none⟩ v9).cell? ⟨b,o,none⟩=some v:=by
 refine(CE (a:=⟨b,o,none⟩) ?_).trans hv;rw[CD _ _ _ _ h,CD _ _ _ _ h,CD _ _ _ _ h,CD _ _ _ _ h,CD _ _ _ _ h,CD _ _ _ _ h,CD _ _ _ _ h,CD _ _ _ _ h,CD _ _ _ _ h,CD _ _ _ _ h]
theorem sM{w:World}{eb:Nat}(h:w.heap[eb]?=some (.cells #[.int .i64 0,.int .i64 0,.int .i64 0,.int .i64 0,.int .i64 0,.int .i64 0,.int .i64 0,.int .i64 0,.string {data:=#[]},.int .i64 0] 122 (0,0)))(v0 v1 v2 v3 v4 v5 v6 v7 v8 v9:Value):((((((((((w.setCell ⟨eb,0,none⟩ v0).setCell ⟨eb,1,none⟩ v1).setCell ⟨eb,2,none⟩ v2).setCell ⟨eb,3,none⟩ v3).setCell ⟨eb,4,none⟩ v4).setCell ⟨eb,5,none⟩ v5).setCell ⟨eb,6,none⟩ v6).setCell ⟨eb,7,none⟩ v7).setCell ⟨eb,8,none⟩ v8).setCell ⟨eb,9,none⟩ v9).heap[eb]?=some (.cells #[v0,v1,v2,v3,v4,v5,v6,v7,v8,v9] 122 (0,0))∧an [some eb] w ((((((((((w.setCell ⟨eb,0,none⟩ v0).setCell ⟨eb,1,none⟩ v1).setCell ⟨eb,2,none⟩ v2).setCell ⟨eb,3,none⟩ v3).setCell ⟨eb,4,none⟩ v4).setCell ⟨eb,5,none⟩ v5).setCell ⟨eb,6,none⟩ v6).setCell ⟨eb,7,none⟩ v7).setCell ⟨eb,8,none⟩ v8).setCell ⟨eb,9,none⟩ v9):=by
 refine⟨?_,(((((((((((an.refl _ w).setCell (.inl (by simp)) _).setCell (.inl (by simp)) _).setCell (.inl (by simp)) _).setCell (.inl (by simp)) _).setCell (.inl (by simp)) _).setCell (.inl (by simp)) _).setCell (.inl (by simp)) _).setCell (.inl (by simp)) _).setCell (.inl (by simp)) _).setCell (.inl (by simp)) _)⟩;rw[(ae (ae (ae (ae (ae (ae (ae (ae (ae (ae h _) _) _) _) _) _) _) _) _) _)];simp
theorem dx(w:World)(o:Obj)(b k:Nat)(hv:w.cell? ⟨b,k,none⟩=some v):(w.alloc o).cell? ⟨b,k,none⟩=some v:=(CE (a:=⟨b,k,none⟩) (Below.heap_alloc w o b (World.block_lt_of_cell? w _ hv))).trans hv
end Go.Proofs.YtckmppkdpnhodaaGreatDoor
