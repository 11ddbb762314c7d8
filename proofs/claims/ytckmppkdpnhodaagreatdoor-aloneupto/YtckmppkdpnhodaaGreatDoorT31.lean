/-
  Contracts of the queue's methods, heap.Push, (*Box).Put. Contracts of (queue).Less, heap.up, heap.Push. Contract of (*Box).Put.
-/
import Derived.Test.YtckmppkdpnhodaaGreatDoorT30
import Derived.Deep.RegionLaw
import Derived.BigQuiet
import Derived.Deep.RegionHeld3
namespace Go.Proofs.YtckmppkdpnhodaaGreatDoor
set_option linter.unusedVariables false
set_option linter.unusedSimpArgs false
open Go.RowKit Go.Proofs

attribute [local go_sem ↓] Go.wp_at_zero Go.wp_at_succ

theorem Tryz.info_item : (Tryz.prog.info? 171).map (fun i => (i.zero, i.size, i.bytes)) = some (some (.agg #[.int .i64 0, .int .i64 0, .int .i64 0, .int .i64 0, .int .i64 0, .int .i64 0, .int .i64 0, .int .i64 0, .int .i64 0, .int .i64 0, .string ByteArray.empty, .int .i64 0]), 12, 104) := by kernel_rfl

theorem boxC_snoc (me : Nat) (log : List Cm) (its : List (Nat × Nat)) (p : Nat × Nat) : boxC me log (its ++ [p]) = boxC me log its ++ itemCells me log p := by simp [boxC]

theorem itemCells_rc (me : Nat) (log : List Cm) (t i : Nat) (cm : Cm) (h : log[i]? = some cm) : itemCells me log (t, i) = [.int .i64 0, .int .i64 (t : Int), .int .i64 (me : Int), .int .i64 ((i : Int) + 1), .int .i64 ((rc me 0 i : Nat) : Int), .int .i64 ((rc me 1 i : Nat) : Int), .int .i64 ((rc me 2 i : Nat) : Int), .int .i64 ((rc me 3 i : Nat) : Int), .int .i64 ((rc me 4 i : Nat) : Int), .int .i64 (cm.k.num : Int), .string cm.word, .int .i64 (cm.count : Int)] := by
  simp only [itemCells, h, Option.getD_some, entCells_rc]
  rfl

set_option maxRecDepth 100000 in
set_option maxHeartbeats 8000000 in
theorem qpush_any (rb me : Nat) (log : List Cm) (its : List (Nat × Nat)) (hl : its.length ≤ 100) (t i : Nat) (cm : Cm) (hi : log[i]? = some cm) (wv : Value) (C : Array Value) (T : TypeId) (w : World) (hrb : w.heap[rb]? = some (.cells C T (0, 0))) (h11 : C[11]? = some wv)
    (hrow : w.ownsRow 0 171 12 wv its.length (boxC me log its)) (hne : wv.ownBlock ≠ some rb) :
    Calls Tryz.prog 235 #[.pointer (some ⟨rb, 11, none⟩), .iface 171 (.agg #[.int .i64 0, .int .i64 (t : Int), .int .i64 (me : Int), .int .i64 ((i : Int) + 1), .int .i64 ((rc me 0 i : Nat) : Int), .int .i64 ((rc me 1 i : Nat) : Int), .int .i64 ((rc me 2 i : Nat) : Int), .int .i64 ((rc me 3 i : Nat) : Int), .int .i64 ((rc me 4 i : Nat) : Int), .int .i64 (cm.k.num : Int), .string cm.word, .int .i64 (cm.count : Int)])] w fun e w' =>
      e = .returned (.tuple #[]) ∧ ∃ g cap, w'.ownsRow 0 171 12 (.slice (some ⟨g, 0, none⟩) (its.length + 1) cap) (its.length + 1) (boxC me log (its ++ [(t, i)])) ∧ (wv.ownBlock = some g ∨ w.heap.size ≤ g) ∧ g ≠ rb ∧
        w'.heap[rb]? = some (.cells (C.setIfInBounds 11 (.slice (some ⟨g, 0, none⟩) (its.length + 1) cap)) T (0, 0)) ∧ Upd [some rb, wv.ownBlock] w w' := by
  obtain ⟨pe, cape, hev⟩ : ∃ p c, wv = .slice p its.length c := by
    rcases hrow.2 with ⟨h1, h0⟩ | ⟨g, cap', _, h1, _⟩
    · rw [h0]; exact ⟨_, _, h1⟩
    · exact ⟨_, _, h1⟩
  obtain ⟨i3, hi3, hy0, hy1, hy2⟩ := info_parts Tryz.info_item
  have hrl : rb < w.heap.size := (Array.getElem?_eq_some_iff.1 hrb).1
  have c4 : w.cell? ⟨rb, 11, none⟩ = some (.slice pe its.length cape) := by rw [cell_of_heap hrb, h11, hev]
  have fz : w.frozen? ⟨rb, 11, none⟩ = false := frozen_of_heap hrb _
  have HE : Hid (wv = .slice pe its.length cape) := hev
  have HRB : Hid (w.heap[rb]? = some (.cells C T (0, 0))) := hrb
  have HL : Hid (boxC me log (its ++ [(t, i)]) = boxC me log its ++ [.int .i64 0, .int .i64 (t : Int), .int .i64 (me : Int), .int .i64 ((i : Int) + 1), .int .i64 ((rc me 0 i : Nat) : Int), .int .i64 ((rc me 1 i : Nat) : Int), .int .i64 ((rc me 2 i : Nat) : Int), .int .i64 ((rc me 3 i : Nat) : Int), .int .i64 ((rc me 4 i : Nat) : Int), .int .i64 (cm.k.num : Int), .string cm.word, .int .i64 (cm.count : Int)]) := by
    show _ = _
    rw [boxC_snoc, itemCells_rc me log t i cm hi]
  rw [hev] at hrow hne
  have HR : Hid (w.ownsRow 0 171 12 (.slice pe its.length cape) its.length (boxC me log its)) := hrow
  clear hrow hev hrb h11 hi
  generalize hL : its.length = L at *
  generalize ((rc me 0 i : Nat) : Int) = r0 at *
  generalize ((rc me 1 i : Nat) : Int) = r1 at *
  generalize ((rc me 2 i : Nat) : Int) = r2 at *
  generalize ((rc me 3 i : Nat) : Int) = r3 at *
  generalize ((rc me 4 i : Nat) : Int) = r4 at *
  have hta : ∀ v W, (Instr.typeAssert (.iface 171 v) 20 171 false).run Tryz.prog W = .ok v W := fun v W => by kernel_rfl
  go_enter Tryz.func235, Tryz.ntmps235
  generalize hb0 : w.heap.size = b0 at *
  have k4 : ∀ o, (w.alloc o).cell? ⟨rb, 11, none⟩ = some (.slice pe L cape) := fun o => (World.cell?_of_block (a := ⟨rb, 11, none⟩) (Below.heap_alloc w o rb (by omega))).trans c4
  have kf : ∀ o, (w.alloc o).frozen? ⟨rb, 11, none⟩ = false := fun o => (World.frozen?_of_block (a := ⟨rb, 11, none⟩) (Below.heap_alloc w o rb (by omega))).trans fz
  go_upto_region 0 with fail
  go_region_law
    ((refine step_append_lies _ (by rfl) _ _ _ (by rfl) 0 171 i3 _ 12 104 Tryz.underlying108 hi3 hy0 hy1 hy2 rfl (by omega) (.slice pe L cape) L (boxC me log its) (by rfl) (Upd.owns (S := []) (Upd.drew (Upd.alloc (Upd.refl _ _) _)) HR.out (by simp))
        ⟨b0, 0, none⟩ 1 1 [.int .i64 0, .int .i64 (t : Int), .int .i64 (me : Int), .int .i64 ((i : Int) + 1), .int .i64 r0, .int .i64 r1, .int .i64 r2, .int .i64 r3, .int .i64 r4, .int .i64 (cm.k.num : Int), .string cm.word, .int .i64 (cm.count : Int)] (by rfl) (by rfl) (World.news_of_block (cs := #[.int .i64 0, .int .i64 (t : Int), .int .i64 (me : Int), .int .i64 ((i : Int) + 1), .int .i64 r0, .int .i64 r1, .int .i64 r2, .int .i64 r3, .int .i64 r4, .int .i64 (cm.k.num : Int), .string cm.word, .int .i64 (cm.count : Int)]) (t := 171) (fr := (0, 0)) (by rw [← hb0]; exact heap_alloc_new w _)) (by simp [Value.oneCell'])
        (by omega) (by unfold maxLen; omega) (by omega) (by first | (simp; done) | (simp; omega)) (b0 + 1) (by simp [hb0]) ?_; intro g5 cap5 w5 hown5 hgrow hat5 hlt5; have s2 : w5.cell? ⟨rb, 11, none⟩ = some (.slice pe L cape) := (hgrow.cell_far ⟨rb, 11, none⟩ (by first | (simp; done) | (simp; omega)) (Ne.symm hne)).trans (k4 _); have sf : w5.frozen? ⟨rb, 11, none⟩ = false := (hgrow.frozen_far ⟨rb, 11, none⟩ (by first | (simp; done) | (simp; omega)) (Ne.symm hne)).trans (kf _)))
  all_goals
    have u5 : Upd [(Value.slice pe L cape).ownBlock] w w5 := (((Upd.refl _ w).alloc _).drew).grown hgrow fun b hb => .inl (by simp [hb])
    have hg5 : g5 ≠ rb := by
      rcases hat5 with h | h
      · intro e; exact hne (e ▸ h)
      · omega
    have hr5 : w5.heap[rb]? = some (.cells C T (0, 0)) := (u5.block rb (by omega) (by simpa using Ne.symm hne)).trans HRB.out
    go_end0
    refine ⟨rfl, g5, cap5, ?_, ?_, hg5, heap_setCell_same hr5 _, ?_⟩
    · rw [HL.out]; exact owns_setCell_other hown5 (fun b hb => by cases hb; exact hg5) _
    · rw [HE.out]
      rcases hat5 with h | h
      · exact .inl h
      · exact .inr (by omega)
    · rw [HE.out]
      exact (u5.mono fun i hi => List.mem_cons_of_mem _ hi).setCell (.inl (by simp)) _

end Go.Proofs.YtckmppkdpnhodaaGreatDoor

namespace Go.Proofs.YtckmppkdpnhodaaGreatDoor
set_option linter.unusedVariables false
set_option linter.unusedSimpArgs false
open Go.RowKit Go.Proofs

attribute [local go_sem ↓] Go.wp_at_zero Go.wp_at_succ

set_option maxRecDepth 100000 in
set_option maxHeartbeats 4000000 in
theorem less_any (g n cap i j : Nat) (hi : i < n) (hj : j < n) (hn : n ≤ 100) (w : World) (h1 : w.cell? ⟨g, i * 12, none⟩ = some (.int .i64 0)) (h2 : w.cell? ⟨g, j * 12, none⟩ = some (.int .i64 0)) :
    Calls Tryz.prog 232 #[.slice (some ⟨g, 0, none⟩) n cap, .int .i64 (i : Int), .int .i64 (j : Int)] w fun e w' => e = .returned (.bool false) ∧ Below w.heap.size w w' := by
  have a0 : (0 : Int) ≤ (i : Int) := by omega
  have a1 : (i : Int) < (n : Int) := by omega
  have a2 : (0 : Int) ≤ (j : Int) := by omega
  have a3 : (j : Int) < (n : Int) := by omega
  go_enter Tryz.func232, Tryz.ntmps232
  go_upto_region 1 with fail
  go_quiet (fail)
  go_wp2
  go_ret
  exact ⟨rfl, below_drewN (Below.refl _ w) _⟩

theorem meth_Less (rb : Nat) (W : World) (a : Option Addr) (n c : Nat) (h : W.cell? ⟨rb, 11, none⟩ = some (.slice a n c)) : (method 409 175 (.pointer (some ⟨rb, 11, none⟩)) "Less").run Tryz.prog W = .ok (232, .slice a n c) W := by
  have e1 : (method 409 175 (.pointer (some ⟨rb, 11, none⟩)) "Less").run Tryz.prog W = ((receiverAt 175 (.val (.pointer (some ⟨rb, 11, none⟩))) false (some "Less") >>= fun v => pure (232, v)) : Sem (FuncId × Value)).run Tryz.prog W := by kernel_rfl
  have e2 : (receiverAt 175 (.val (.pointer (some ⟨rb, 11, none⟩))) false (some "Less")).run Tryz.prog W = (loadVar 108 ⟨rb, 11, none⟩).run Tryz.prog W := by kernel_rfl
  have e3 : (loadVar 108 ⟨rb, 11, none⟩).run Tryz.prog W = .ok (.slice a n c) W := by go_simp
  rw [e1]
  have e4 := e2.trans e3
  simp [go_sem, e4]

theorem meth_Len (rb : Nat) (W : World) (a : Option Addr) (n c : Nat) (h : W.cell? ⟨rb, 11, none⟩ = some (.slice a n c)) : (method 409 175 (.pointer (some ⟨rb, 11, none⟩)) "Len").run Tryz.prog W = .ok (231, .slice a n c) W := by
  have e1 : (method 409 175 (.pointer (some ⟨rb, 11, none⟩)) "Len").run Tryz.prog W = ((receiverAt 175 (.val (.pointer (some ⟨rb, 11, none⟩))) false (some "Len") >>= fun v => pure (231, v)) : Sem (FuncId × Value)).run Tryz.prog W := by kernel_rfl
  have e2 : (receiverAt 175 (.val (.pointer (some ⟨rb, 11, none⟩))) false (some "Len")).run Tryz.prog W = (loadVar 108 ⟨rb, 11, none⟩).run Tryz.prog W := by kernel_rfl
  have e3 : (loadVar 108 ⟨rb, 11, none⟩).run Tryz.prog W = .ok (.slice a n c) W := by go_simp
  rw [e1]
  have e4 := e2.trans e3
  simp [go_sem, e4]

theorem meth_Push (rb : Nat) (W : World) : (method 409 175 (.pointer (some ⟨rb, 11, none⟩)) "Push").run Tryz.prog W = .ok (235, .pointer (some ⟨rb, 11, none⟩)) W := by kernel_rfl

set_option maxRecDepth 100000 in
set_option maxHeartbeats 4000000 in
theorem up_any (rb g n cap j : Nat) (hj : j < n) (hn : n ≤ 100) (w : World) (h11 : w.cell? ⟨rb, 11, none⟩ = some (.slice (some ⟨g, 0, none⟩) n cap)) (hz : ∀ i, i < n → w.cell? ⟨g, i * 12, none⟩ = some (.int .i64 0)) :
    Calls Tryz.prog 128 #[.iface 175 (.pointer (some ⟨rb, 11, none⟩)), .int .i64 (j : Int)] w fun e w' => e = .returned (.tuple #[]) ∧ Below w.heap.size w w' := by
  have HL : Hid (∀ i W, i < n → Below w.heap.size w W → Calls Tryz.prog 232 #[.slice (some ⟨g, 0, none⟩) n cap, .int .i64 (j : Int), .int .i64 (i : Int)] W fun e w' => e = .returned (.bool false) ∧ Below W.heap.size W w') := fun i W hi hW => less_any g n cap j i hj hi hn W (cell_below hW (hz j hj)) (cell_below hW (hz i hi))
  clear hz
  go_enter Tryz.func128, Tryz.ntmps128
  go_wp2
  go_loopw [1] (fun v wr => v = .int .i64 (j : Int) ∧ wr = w) (fun _ _ => 0)
  case atStart => exact ⟨rfl, rfl⟩
  case round =>
    obtain ⟨rfl, rfl⟩ := hrel
    have hm := meth_Less rb wr _ _ _ h11
    rcases j with _ | m
    · have q0 : ((0 : Int) - 1).tdiv 2 = 0 := by decide
      go_wp2
      go_end0
      exact ⟨rfl, Below.refl _ _⟩
    · have hq : ¬ ((m : Int) / 2 = (m : Int) + 1) := by omega
      have hqb : ((m : Int) / 2 == (m : Int) + 1) = false := by simp; omega
      have HLm : Hid (Calls Tryz.prog 232 #[.slice (some ⟨g, 0, none⟩) n cap, .int .i64 ((m : Int) + 1), .int .i64 ((m : Int) / 2)] wr fun e w' => e = .returned (.bool false) ∧ Below wr.heap.size wr w') := by
        have := HL.out (m / 2) wr (by omega) (Below.refl _ _)
        rw [show ((m / 2 : Nat) : Int) = (m : Int) / 2 by omega, show ((m + 1 : Nat) : Int) = (m : Int) + 1 by omega] at this
        exact this
      go_wp2_with (go_at_call 232; refine HLm.out.mono ?_; rintro e w1 ⟨rfl, hb1⟩)
      go_end0
      exact ⟨rfl, hb1⟩

theorem len_any (a : Option Addr) (n c : Nat) (w : World) : Calls Tryz.prog 231 #[.slice a n c] w fun e w' => e = .returned (.int .i64 (n : Int)) ∧ w' = w := by
  go_enter Tryz.func231, Tryz.ntmps231
  go_wp2
  go_ret
  exact ⟨rfl, rfl⟩

set_option maxRecDepth 100000 in
set_option maxHeartbeats 4000000 in
theorem push_any (rb me : Nat) (log : List Cm) (its : List (Nat × Nat)) (hl : its.length < 100) (t i : Nat) (cm : Cm) (hi : log[i]? = some cm) (wv : Value) (C : Array Value) (T : TypeId) (w : World) (hrb : w.heap[rb]? = some (.cells C T (0, 0))) (h11 : C[11]? = some wv)
    (hrow : w.ownsRow 0 171 12 wv its.length (boxC me log its)) (hne : wv.ownBlock ≠ some rb) :
    Calls Tryz.prog 89 #[.iface 175 (.pointer (some ⟨rb, 11, none⟩)), .iface 171 (.agg #[.int .i64 0, .int .i64 (t : Int), .int .i64 (me : Int), .int .i64 ((i : Int) + 1), .int .i64 ((rc me 0 i : Nat) : Int), .int .i64 ((rc me 1 i : Nat) : Int), .int .i64 ((rc me 2 i : Nat) : Int), .int .i64 ((rc me 3 i : Nat) : Int), .int .i64 ((rc me 4 i : Nat) : Int), .int .i64 (cm.k.num : Int), .string cm.word, .int .i64 (cm.count : Int)])] w fun e w' =>
      e = .returned (.tuple #[]) ∧ ∃ g cap, w'.ownsRow 0 171 12 (.slice (some ⟨g, 0, none⟩) (its.length + 1) cap) (its.length + 1) (boxC me log (its ++ [(t, i)])) ∧ (wv.ownBlock = some g ∨ w.heap.size ≤ g) ∧ g ≠ rb ∧
        w'.heap[rb]? = some (.cells (C.setIfInBounds 11 (.slice (some ⟨g, 0, none⟩) (its.length + 1) cap)) T (0, 0)) ∧ Upd [some rb, wv.ownBlock] w w' := by
  have HP : Hid (Calls Tryz.prog 235 #[.pointer (some ⟨rb, 11, none⟩), .iface 171 (.agg #[.int .i64 0, .int .i64 (t : Int), .int .i64 (me : Int), .int .i64 ((i : Int) + 1), .int .i64 ((rc me 0 i : Nat) : Int), .int .i64 ((rc me 1 i : Nat) : Int), .int .i64 ((rc me 2 i : Nat) : Int), .int .i64 ((rc me 3 i : Nat) : Int), .int .i64 ((rc me 4 i : Nat) : Int), .int .i64 (cm.k.num : Int), .string cm.word, .int .i64 (cm.count : Int)])] w fun e w' =>
      e = .returned (.tuple #[]) ∧ ∃ g cap, w'.ownsRow 0 171 12 (.slice (some ⟨g, 0, none⟩) (its.length + 1) cap) (its.length + 1) (boxC me log (its ++ [(t, i)])) ∧ (wv.ownBlock = some g ∨ w.heap.size ≤ g) ∧ g ≠ rb ∧
        w'.heap[rb]? = some (.cells (C.setIfInBounds 11 (.slice (some ⟨g, 0, none⟩) (its.length + 1) cap)) T (0, 0)) ∧ Upd [some rb, wv.ownBlock] w w') := qpush_any rb me log its (by omega) t i cm hi wv C T w hrb h11 hrow hne
  have HC : Hid (11 < C.size) := (Array.getElem?_eq_some_iff.1 h11).1
  have HU : Hid (∀ (W : World) g cap, W.heap[rb]? = some (.cells (C.setIfInBounds 11 (.slice (some ⟨g, 0, none⟩) (its.length + 1) cap)) T (0, 0)) → W.ownsRow 0 171 12 (.slice (some ⟨g, 0, none⟩) (its.length + 1) cap) (its.length + 1) (boxC me log (its ++ [(t, i)])) → W.cell? ⟨rb, 11, none⟩ = some (.slice (some ⟨g, 0, none⟩) (its.length + 1) cap) ∧ Calls Tryz.prog 128 #[.iface 175 (.pointer (some ⟨rb, 11, none⟩)), .int .i64 (its.length : Int)] W fun e w' => e = .returned (.tuple #[]) ∧ Below W.heap.size W w') := fun W g cap hr ho => by
    have hc : W.cell? ⟨rb, 11, none⟩ = some (.slice (some ⟨g, 0, none⟩) (its.length + 1) cap) := by
      rw [cell_of_heap hr, Array.getElem?_setIfInBounds_self_of_lt HC.out]
    have ho' : W.ownsRow 0 171 12 (.slice (some ⟨g, 0, none⟩) (its.length + 1) cap) (its ++ [(t, i)]).length (boxC me log (its ++ [(t, i)])) := by simpa using ho
    refine ⟨hc, up_any rb g (its.length + 1) cap its.length (by omega) (by omega) W hc fun k hk => ?_⟩
    obtain ⟨g', cap', hv, -, hcl⟩ := item_cells ho' (i := k) (by simpa using hk)
    have h0 := hcl 0 _ (by omega) rfl
    have hgg : g = g' := by simp only [Value.slice.injEq, Option.some.injEq, Addr.mk.injEq] at hv; exact hv.1.1
    rw [hgg]
    exact h0
  have hmP := fun W => meth_Push rb W
  have hmL := fun W a n c h => meth_Len rb W a n c h
  clear hrow hrb h11 hi hne
  generalize hL : its.length = L at *
  go_enter Tryz.func89, Tryz.ntmps89
  go_wp2_with (first
    | (go_at_call 235; refine HP.out.mono ?_; rintro e w1 ⟨rfl, g, cap, o1, o2, o3, o4, o5⟩; obtain ⟨p1, p2⟩ := HU.out w1 g cap o4 o1; have p3 := hmL w1 _ _ _ p1; have HP2 : Hid _ := p2)
    | (go_at_call 231; refine (len_any _ _ _ _).mono ?_; rintro e w' ⟨rfl, rfl⟩)
    | (go_at_call 128; refine Calls.mono HP2.out ?_; rintro e w2 ⟨rfl, hb2⟩))
  go_end0
  refine ⟨rfl, g, cap, (Upd.of_below (S := []) hb2).owns o1 (by simp), o2, o3, (hb2.block rb (Array.getElem?_eq_some_iff.1 o4).1).trans o4, o5.trans (Upd.of_below (S := []) hb2) (by simp)⟩

end Go.Proofs.YtckmppkdpnhodaaGreatDoor

namespace Go.Proofs.YtckmppkdpnhodaaGreatDoor
set_option linter.unusedVariables false
set_option linter.unusedSimpArgs false
open Go.RowKit Go.Proofs

attribute [local go_sem ↓] Go.wp_at_zero Go.wp_at_succ

set_option maxRecDepth 100000 in
set_option maxHeartbeats 4000000 in
theorem boxput_any (rb me : Nat) (log : List Cm) (its : List (Nat × Nat)) (hl : its.length < 100) (t i : Nat) (cm : Cm) (hi : log[i]? = some cm) (wv : Value) (C : Array Value) (T : TypeId) (w : World) (hrb : w.heap[rb]? = some (.cells C T (0, 0))) (h10 : C[10]? = some (.int .i64 0)) (h11 : C[11]? = some wv)
    (hrow : w.ownsRow 0 171 12 wv its.length (boxC me log its)) (hne : wv.ownBlock ≠ some rb) :
    Calls Tryz.prog 50 #[.pointer (some ⟨rb, 10, none⟩), .int .i64 (t : Int), .agg #[.int .i64 (me : Int), .int .i64 ((i : Int) + 1), .int .i64 ((rc me 0 i : Nat) : Int), .int .i64 ((rc me 1 i : Nat) : Int), .int .i64 ((rc me 2 i : Nat) : Int), .int .i64 ((rc me 3 i : Nat) : Int), .int .i64 ((rc me 4 i : Nat) : Int), .int .i64 (cm.k.num : Int), .string cm.word, .int .i64 (cm.count : Int)]] w fun e w' =>
      e = .returned (.tuple #[]) ∧ ∃ g cap, w'.ownsRow 0 171 12 (.slice (some ⟨g, 0, none⟩) (its.length + 1) cap) (its.length + 1) (boxC me log (its ++ [(t, i)])) ∧ (wv.ownBlock = some g ∨ w.heap.size ≤ g) ∧ g ≠ rb ∧
        w'.heap[rb]? = some (.cells (C.setIfInBounds 11 (.slice (some ⟨g, 0, none⟩) (its.length + 1) cap)) T (0, 0)) ∧ Upd [some rb, wv.ownBlock] w w' := by
  have hrl : rb < w.heap.size := (Array.getElem?_eq_some_iff.1 hrb).1
  have HP : Hid (∀ W, Below w.heap.size w W → Calls Tryz.prog 89 #[.iface 175 (.pointer (some ⟨rb, 11, none⟩)), .iface 171 (.agg #[.int .i64 0, .int .i64 (t : Int), .int .i64 (me : Int), .int .i64 ((i : Int) + 1), .int .i64 ((rc me 0 i : Nat) : Int), .int .i64 ((rc me 1 i : Nat) : Int), .int .i64 ((rc me 2 i : Nat) : Int), .int .i64 ((rc me 3 i : Nat) : Int), .int .i64 ((rc me 4 i : Nat) : Int), .int .i64 (cm.k.num : Int), .string cm.word, .int .i64 (cm.count : Int)])] W fun e w' => e = .returned (.tuple #[]) ∧ ∃ g cap, w'.ownsRow 0 171 12 (.slice (some ⟨g, 0, none⟩) (its.length + 1) cap) (its.length + 1) (boxC me log (its ++ [(t, i)])) ∧ (wv.ownBlock = some g ∨ W.heap.size ≤ g) ∧ g ≠ rb ∧
        w'.heap[rb]? = some (.cells (C.setIfInBounds 11 (.slice (some ⟨g, 0, none⟩) (its.length + 1) cap)) T (0, 0)) ∧ Upd [some rb, wv.ownBlock] W w') := fun W hW => push_any rb me log its hl t i cm hi wv C T W ((hW.block rb hrl).trans hrb) h11 ((Upd.of_below (S := []) hW).owns hrow (by simp)) hne
  have c10 : w.cell? ⟨rb, 10, none⟩ = some (.int .i64 0) := by rw [cell_of_heap hrb, h10]
  have H10 : Hid (C[10]? = some (.int .i64 0)) := h10
  have hwl : ∀ b, wv.ownBlock = some b → b < w.heap.size := fun b hb => (hrow.lt b hb).2
  clear hrow hrb h11 h10 hi
  go_enter Tryz.func50, Tryz.ntmps50
  go_upto_region 1 with fail
  obtain ⟨wa, hwa⟩ : ∃ wa, w.alloc (.cells #[.int .i64 (me : Int), .int .i64 ((i : Int) + 1), .int .i64 ((rc me 0 i : Nat) : Int), .int .i64 ((rc me 1 i : Nat) : Int), .int .i64 ((rc me 2 i : Nat) : Int), .int .i64 ((rc me 3 i : Nat) : Int), .int .i64 ((rc me 4 i : Nat) : Int), .int .i64 (cm.k.num : Int), .string cm.word, .int .i64 (cm.count : Int)] 122) = wa := ⟨_, rfl⟩
  have hba : Below w.heap.size w wa := by rw [← hwa]; exact (Below.refl _ w).alloc (Nat.le_refl _) _
  have hea : wa.heap[w.heap.size]? = some (.cells #[.int .i64 (me : Int), .int .i64 ((i : Int) + 1), .int .i64 ((rc me 0 i : Nat) : Int), .int .i64 ((rc me 1 i : Nat) : Int), .int .i64 ((rc me 2 i : Nat) : Int), .int .i64 ((rc me 3 i : Nat) : Int), .int .i64 ((rc me 4 i : Nat) : Int), .int .i64 (cm.k.num : Int), .string cm.word, .int .i64 (cm.count : Int)] 122 (0, 0)) := by rw [← hwa]; exact heap_alloc_new w _
  have hsa : wa.heap.size = w.heap.size + 1 := by rw [← hwa]; simp
  rw [hwa]
  clear hwa
  have a10 := cell_below hba c10
  have a0 : wa.cell? ⟨w.heap.size, 0, none⟩ = some (.int .i64 (me : Int)) := by rw [cell_of_heap hea]; rfl
  have a1 : wa.cell? ⟨w.heap.size, 1, none⟩ = some (.int .i64 ((i : Int) + 1)) := by rw [cell_of_heap hea]; rfl
  have a2 : wa.cell? ⟨w.heap.size, 2, none⟩ = some (.int .i64 ((rc me 0 i : Nat) : Int)) := by rw [cell_of_heap hea]; rfl
  have a3 : wa.cell? ⟨w.heap.size, 3, none⟩ = some (.int .i64 ((rc me 1 i : Nat) : Int)) := by rw [cell_of_heap hea]; rfl
  have a4 : wa.cell? ⟨w.heap.size, 4, none⟩ = some (.int .i64 ((rc me 2 i : Nat) : Int)) := by rw [cell_of_heap hea]; rfl
  have a5 : wa.cell? ⟨w.heap.size, 5, none⟩ = some (.int .i64 ((rc me 3 i : Nat) : Int)) := by rw [cell_of_heap hea]; rfl
  have a6 : wa.cell? ⟨w.heap.size, 6, none⟩ = some (.int .i64 ((rc me 4 i : Nat) : Int)) := by rw [cell_of_heap hea]; rfl
  have a7 : wa.cell? ⟨w.heap.size, 7, none⟩ = some (.int .i64 (cm.k.num : Int)) := by rw [cell_of_heap hea]; rfl
  have a8 : wa.cell? ⟨w.heap.size, 8, none⟩ = some (.string cm.word) := by rw [cell_of_heap hea]; rfl
  have a9 : wa.cell? ⟨w.heap.size, 9, none⟩ = some (.int .i64 (cm.count : Int)) := by rw [cell_of_heap hea]; rfl
  have HBA : Hid (Below w.heap.size w wa) := hba
  have HPA := HP.out wa.drew hba.drew
  have HPH : Hid _ := HPA
  have HEA : Hid (wa.heap[w.heap.size]? = some (.cells #[.int .i64 (me : Int), .int .i64 ((i : Int) + 1), .int .i64 ((rc me 0 i : Nat) : Int), .int .i64 ((rc me 1 i : Nat) : Int), .int .i64 ((rc me 2 i : Nat) : Int), .int .i64 ((rc me 3 i : Nat) : Int), .int .i64 ((rc me 4 i : Nat) : Int), .int .i64 (cm.k.num : Int), .string cm.word, .int .i64 (cm.count : Int)] 122 (0, 0))) := hea
  have HK : Hid (∀ w2 g cap, w2.heap[rb]? = some (.cells (C.setIfInBounds 11 (.slice (some ⟨g, 0, none⟩) (its.length + 1) cap)) T (0, 0)) → Upd [some rb, wv.ownBlock] wa.drew w2 → w2.cell? ⟨rb, 10, none⟩ = some (.int .i64 0) ∧ w2.heap[w.heap.size]? = some (.cells #[.int .i64 (me : Int), .int .i64 ((i : Int) + 1), .int .i64 ((rc me 0 i : Nat) : Int), .int .i64 ((rc me 1 i : Nat) : Int), .int .i64 ((rc me 2 i : Nat) : Int), .int .i64 ((rc me 3 i : Nat) : Int), .int .i64 ((rc me 4 i : Nat) : Int), .int .i64 (cm.k.num : Int), .string cm.word, .int .i64 (cm.count : Int)] 122 (0, 0))) := fun w2 g cap h1 h2 => by
    refine ⟨by rw [cell_of_heap h1, Array.getElem?_setIfInBounds_ne (by omega)]; exact H10.out, (h2.block w.heap.size (by show w.heap.size < wa.heap.size; omega) fun hm => ?_).trans HEA.out⟩
    simp only [List.mem_cons, List.not_mem_nil, or_false, Option.some.injEq] at hm
    rcases hm with h | h
    · omega
    · have := hwl _ h.symm; omega
  clear c10 hba hea HPA HP
  generalize hb0 : w.heap.size = b0 at *
  generalize hr0 : ((rc me 0 i : Nat) : Int) = r0 at *
  generalize hr1 : ((rc me 1 i : Nat) : Int) = r1 at *
  generalize hr2 : ((rc me 2 i : Nat) : Int) = r2 at *
  generalize hr3 : ((rc me 3 i : Nat) : Int) = r3 at *
  generalize hr4 : ((rc me 4 i : Nat) : Int) = r4 at *
  go_region_held3 (fun w' => w'.cell? ⟨rb, 10, none⟩ = some (.int .i64 0) ∧ w'.cell? ⟨b0, 0, none⟩ = some (.int .i64 (me : Int)) ∧ w'.cell? ⟨b0, 1, none⟩ = some (.int .i64 ((i : Int) + 1)) ∧ w'.cell? ⟨b0, 2, none⟩ = some (.int .i64 r0) ∧ w'.cell? ⟨b0, 3, none⟩ = some (.int .i64 r1) ∧ w'.cell? ⟨b0, 4, none⟩ = some (.int .i64 r2) ∧ w'.cell? ⟨b0, 5, none⟩ = some (.int .i64 r3) ∧ w'.cell? ⟨b0, 6, none⟩ = some (.int .i64 r4) ∧ w'.cell? ⟨b0, 7, none⟩ = some (.int .i64 (cm.k.num : Int)) ∧ w'.cell? ⟨b0, 8, none⟩ = some (.string cm.word) ∧ w'.cell? ⟨b0, 9, none⟩ = some (.int .i64 (cm.count : Int)))
    (first
      | exact ⟨a10, a0, a1, a2, a3, a4, a5, a6, a7, a8, a9⟩
      | exact ⟨k10, by rw [cell_of_heap kh]; rfl, by rw [cell_of_heap kh]; rfl, by rw [cell_of_heap kh]; rfl, by rw [cell_of_heap kh]; rfl, by rw [cell_of_heap kh]; rfl, by rw [cell_of_heap kh]; rfl, by rw [cell_of_heap kh]; rfl, by rw [cell_of_heap kh]; rfl, by rw [cell_of_heap kh]; rfl, by rw [cell_of_heap kh]; rfl⟩
      | go_keep)
    (first
      | (go_at_call 89; refine Calls.mono HPH.out ?_; rintro e w2 ⟨rfl, g, cap, o1, o2, o3, o4, o5⟩; obtain ⟨k10, kh⟩ := HK.out w2 g cap o4 o5))
  go_end0
  refine ⟨rfl, g, cap, o1, ?_, o3, o4, (Upd.of_below (S := [some rb, wv.ownBlock]) (by rw [hb0]; exact HBA.out.drew)).trans o5 (fun i hi => .inl hi)⟩
  rcases o2 with h | h
  · exact .inl h
  · exact .inr (by have : wa.drew.heap.size = wa.heap.size := rfl; omega)

end Go.Proofs.YtckmppkdpnhodaaGreatDoor
