/-
  Contracts of (queue).Less, heap.up, heap.Push. A row of items, turned in place: (queue).Less, (queue).Swap. Heaps, purely: keys by their places. The row turned by Swap; heap.up. heap.up: an item goes up till it is not due ahead of its parent.
-/
import Derived.Test.YtckmppkdpnhodaaGreatDoorT05
import Derived.BigQuiet
import Derived.Test.YtckmppkdpnhodaaGreatDoorT04
import Derived.BigRegion
import Derived.WalkKit
namespace Go.Proofs.YtckmppkdpnhodaaGreatDoor
set_option linter.unusedVariables false
set_option linter.unusedSimpArgs false
open Go.RowKit Go.Proofs

attribute [local go_sem ↓] Go.wp_at_zero Go.wp_at_succ

theorem meth_Less (rb : Nat) (W : World) (a : Option Addr) (n c : Nat) (h : W.cell? ⟨rb, 11, none⟩ = some (.slice a n c)) : (method 409 175 (.pointer (some ⟨rb, 11, none⟩)) "Less").run Tryz.prog W = .ok (232, .slice a n c) W := by
  have e1 : (method 409 175 (.pointer (some ⟨rb, 11, none⟩)) "Less").run Tryz.prog W = ((receiverAt 175 (.val (.pointer (some ⟨rb, 11, none⟩))) false (some "Less") >>= fun v => pure (232, v)) : Sem (FuncId × Value)).run Tryz.prog W := by kernel_rfl
  have e2 : (receiverAt 175 (.val (.pointer (some ⟨rb, 11, none⟩))) false (some "Less")).run Tryz.prog W = (loadVar 108 ⟨rb, 11, none⟩).run Tryz.prog W := by kernel_rfl
  have e3 : (loadVar 108 ⟨rb, 11, none⟩).run Tryz.prog W = .ok (.slice a n c) W := by go_simp
  rw [e1]
  have e4 := e2.trans e3
  simp [go_sem, e4]

theorem meth_Len (rb : Nat) (W : World) (a : Option Addr) (n c : Nat) (h : W.cell? ⟨rb, 11, none⟩ = some (.slice a n c)) : (method 409 175 (.pointer (some ⟨rb, 11, none⟩)) "Len").run Tryz.prog W = .ok (231, .slice a n c) W := by
  have e1 : (method 409 175 (.pointer (some ⟨rb, 11, none⟩)) "Len").run Tryz.prog W = ((receiverAt 175 (.val (.pointer (some ⟨rb, 11, none⟩))) false (some "Len") >>= fun v => pure (231, v)) : Sem (FuncId × Value)).run Tryz.prog W := by kernel_rfl
  have e2 : (receiverAt 175 (.val (.pointer (some ⟨rb, 11, none⟩))) false (some "Len")).run Tryz.prog W = (loadVar 108 ⟨rb, 11, none⟩).run Tryz.prog W := by kernel_rfl
  have e3 : (loadVar 108 ⟨rb, 11, none⟩).run Tryz.prog W = .ok (.slice a n c) W := by go_simp
  rw [e1]
  have e4 := e2.trans e3
  simp [go_sem, e4]

theorem meth_Push (rb : Nat) (W : World) : (method 409 175 (.pointer (some ⟨rb, 11, none⟩)) "Push").run Tryz.prog W = .ok (235, .pointer (some ⟨rb, 11, none⟩)) W := by kernel_rfl

theorem len_any (a : Option Addr) (n c : Nat) (w : World) : Calls Tryz.prog 231 #[.slice a n c] w fun e w' => e = .returned (.int .i64 (n : Int)) ∧ w' = w := by
  go_enter Tryz.func231, Tryz.ntmps231
  go_wp2
  go_ret
  exact ⟨rfl, rfl⟩

end Go.Proofs.YtckmppkdpnhodaaGreatDoor

namespace Go.Proofs.YtckmppkdpnhodaaGreatDoor
set_option linter.unusedVariables false
set_option linter.unusedSimpArgs false
open Go.RowKit Go.Proofs

attribute [local go_sem ↓] Go.wp_at_zero Go.wp_at_succ

/-- Values written one behind the other. -/
def putMany (F : Array Value) : Nat → List Value → Array Value
  | _, [] => F
  | s, v :: vs => putMany (F.setIfInBounds s v) (s + 1) vs

theorem putMany_size : ∀ (vs : List Value) (s : Nat) (F : Array Value), (putMany F s vs).size = F.size
  | [], _, _ => rfl
  | v :: vs, s, F => by rw [putMany, putMany_size vs]; simp

theorem putMany_get : ∀ (vs : List Value) (s : Nat) (F : Array Value) (t : Nat), t < F.size → (putMany F s vs)[t]? = if s ≤ t ∧ t < s + vs.length then vs[t - s]? else F[t]?
  | [], s, F, t, _ => by
    rw [putMany, if_neg]
    simp only [List.length_nil]
    omega
  | v :: vs, s, F, t, ht => by
    rw [putMany, putMany_get vs (s + 1) _ t (by simpa using ht), List.length_cons]
    by_cases h1 : s = t
    · subst h1
      rw [if_neg (by omega), if_pos (by omega), Nat.sub_self]
      simp [ht]
    · by_cases h2 : s + 1 ≤ t ∧ t < s + 1 + vs.length
      · rw [if_pos h2, if_pos (by omega), show t - s = (t - (s + 1)) + 1 by omega]
        simp
      · rw [if_neg h2, if_neg (by omega), Array.getElem?_setIfInBounds_ne h1]

def setMany' (w : World) (g : Nat) : Nat → List Value → World
  | _, [] => w
  | s, v :: vs => setMany' (w.setCell ⟨g, s, none⟩ v) g (s + 1) vs

theorem setMany_heap {T : TypeId} {g : Nat} : ∀ (vs : List Value) (s : Nat) (w : World) (cur : Array Value), w.heap[g]? = some (.cells cur T (0, 0)) → (setMany' w g s vs).heap[g]? = some (.cells (putMany cur s vs) T (0, 0))
  | [], _, _, _, h => h
  | v :: vs, s, w, cur, h => by
    rw [setMany', putMany]
    exact setMany_heap vs (s + 1) _ _ (heap_setCell_same h v)

theorem setMany_upd {g : Nat} : ∀ (vs : List Value) (s : Nat) (w : World), Upd [some g] w (setMany' w g s vs)
  | [], _, w => Upd.refl _ w
  | v :: vs, s, w => by
    rw [setMany']
    exact ((Upd.refl _ w).setCell (.inl (by simp)) v).trans (setMany_upd vs (s + 1) _) (fun i hi => .inl hi)

/-- An item of the row set anew. -/
theorem itRow_set {cur : Array Value} {its : List It} {n : Nat} (hn : n = its.length) (hc : n * 12 ≤ cur.size) (h : cur.toList.take (n * 12) = itRow its) {i : Nat} (hi : i < n) (x : It) : (putMany cur (i * 12) x.cells).toList.take (n * 12) = itRow (its.set i x) := by
  subst hn
  apply List.ext_getElem?
  intro t
  by_cases ht : t < its.length * 12
  · rw [List.getElem?_take_of_lt ht, Array.getElem?_toList, putMany_get _ _ _ t (by omega), It.cells_length]
    have hq : t / 12 < its.length := by omega
    have e : t = t / 12 * 12 + t % 12 := by omega
    have hr := itRow_get (its.set i x) (i := t / 12) (o := t % 12) (by simpa using hq) (by omega)
    rw [← e] at hr
    rw [hr]
    by_cases hit : i = t / 12
    · subst hit
      rw [if_pos (by omega)]
      simp only [List.getElem_set_self]
      rw [show t - t / 12 * 12 = t % 12 by omega]
    · rw [if_neg (by omega), List.getElem_set_ne hit]
      have h0 := itRow_get its hq (show t % 12 < 12 by omega)
      rw [← e, ← h, List.getElem?_take_of_lt ht, Array.getElem?_toList] at h0
      exact h0
  · rw [List.getElem?_eq_none (by rw [List.length_take]; omega), List.getElem?_eq_none (by rw [itRow_length]; simpa using ht)]

/-- A row of items in the block g. -/
structure QRow (w : World) (g cap : Nat) (its : List It) (cur : Array Value) : Prop where
  blk : w.heap[g]? = some (.cells cur 171 (0, 0))
  le : its.length ≤ cap
  size : cap * 12 ≤ cur.size
  row : cur.toList.take (its.length * 12) = itRow its

set_option maxRecDepth 100000 in
set_option maxHeartbeats 4000000 in
theorem lessG (g n cap i j di dj : Nat) (hi : i < n) (hj : j < n) (hn : n ≤ 1000) (w : World) (h1 : w.cell? ⟨g, i * 12, none⟩ = some (.int .i64 (di : Int))) (h2 : w.cell? ⟨g, j * 12, none⟩ = some (.int .i64 (dj : Int))) :
    Calls Tryz.prog 232 #[.slice (some ⟨g, 0, none⟩) n cap, .int .i64 (i : Int), .int .i64 (j : Int)] w fun e w' => e = .returned (.bool (decide (di < dj))) ∧ Below w.heap.size w w' := by
  have a0 : (0 : Int) ≤ (i : Int) := by omega
  have a1 : (i : Int) < (n : Int) := by omega
  have a2 : (0 : Int) ≤ (j : Int) := by omega
  have a3 : (j : Int) < (n : Int) := by omega
  have HD : Hid (decide ((di : Int) < (dj : Int)) = decide (di < dj)) := by
    show _ = _
    rw [decide_eq_decide]
    omega
  go_enter Tryz.func232, Tryz.ntmps232
  go_upto_region 1 with fail
  go_quiet (fail)
  go_wp2
  go_ret
  exact ⟨ret_bool (by rw [← HD.out]), below_drewN (Below.refl _ w) _⟩

theorem QRow.cell {w : World} {g cap : Nat} {its : List It} {cur : Array Value} (h : QRow w g cap its cur) {i o : Nat} (hi : i < its.length) (ho : o < 12) {v : Value} (hv : its[i].cells[o]? = some v) : w.cell? ⟨g, i * 12 + o, none⟩ = some v := by
  rw [cell_of_heap h.blk]
  have hr := itRow_get its hi ho
  rw [← h.row, List.getElem?_take_of_lt (by omega), Array.getElem?_toList] at hr
  rw [hr, hv]

set_option maxRecDepth 100000 in
set_option maxHeartbeats 8000000 in
theorem swapG (g cap i j : Nat) (its : List It) (hi : i < its.length) (hj : j < its.length) (hn : its.length ≤ 1000) (cur : Array Value) (w : World) (h : QRow w g cap its cur) :
    Calls Tryz.prog 233 #[.slice (some ⟨g, 0, none⟩) its.length cap, .int .i64 (i : Int), .int .i64 (j : Int)] w fun e w' => e = .returned (.tuple #[]) ∧ ∃ n, w' = (setMany' (setMany' w g (i * 12) its[j].cells) g (j * 12) its[i].cells).drewN n := by
  have a0 : (0 : Int) ≤ (i : Int) := by omega
  have a1 : (i : Int) < (its.length : Int) := by omega
  have a2 : (0 : Int) ≤ (j : Int) := by omega
  have a3 : (j : Int) < (its.length : Int) := by omega
  obtain ⟨p0, p1, p2, p3, p4, p5, p6, p7, p8, p9, p11, ps, hp, pc0, pc1, pc2, pc3, pc4, pc5, pc6, pc7, pc8, pc9, pc10, pc11⟩ : ∃ (p0 p1 p2 p3 p4 p5 p6 p7 p8 p9 p11 : Int) (ps : ByteArray), its[i].cells = [.int .i64 p0, .int .i64 p1, .int .i64 p2, .int .i64 p3, .int .i64 p4, .int .i64 p5, .int .i64 p6, .int .i64 p7, .int .i64 p8, .int .i64 p9, .string ps, .int .i64 p11] ∧ w.cell? ⟨g, i * 12, none⟩ = some (.int .i64 p0) ∧ w.cell? ⟨g, i * 12 + 1, none⟩ = some (.int .i64 p1) ∧ w.cell? ⟨g, i * 12 + 2, none⟩ = some (.int .i64 p2) ∧ w.cell? ⟨g, i * 12 + 3, none⟩ = some (.int .i64 p3) ∧ w.cell? ⟨g, i * 12 + 4, none⟩ = some (.int .i64 p4) ∧ w.cell? ⟨g, i * 12 + 5, none⟩ = some (.int .i64 p5) ∧ w.cell? ⟨g, i * 12 + 6, none⟩ = some (.int .i64 p6) ∧ w.cell? ⟨g, i * 12 + 7, none⟩ = some (.int .i64 p7) ∧ w.cell? ⟨g, i * 12 + 8, none⟩ = some (.int .i64 p8) ∧ w.cell? ⟨g, i * 12 + 9, none⟩ = some (.int .i64 p9) ∧ w.cell? ⟨g, i * 12 + 10, none⟩ = some (.string ps) ∧ w.cell? ⟨g, i * 12 + 11, none⟩ = some (.int .i64 p11) :=
    ⟨_, _, _, _, _, _, _, _, _, _, _, _, rfl, h.cell (o := 0) hi (by omega) rfl, h.cell (o := 1) hi (by omega) rfl, h.cell (o := 2) hi (by omega) rfl, h.cell (o := 3) hi (by omega) rfl, h.cell (o := 4) hi (by omega) rfl, h.cell (o := 5) hi (by omega) rfl, h.cell (o := 6) hi (by omega) rfl, h.cell (o := 7) hi (by omega) rfl, h.cell (o := 8) hi (by omega) rfl, h.cell (o := 9) hi (by omega) rfl, h.cell (o := 10) hi (by omega) rfl, h.cell (o := 11) hi (by omega) rfl⟩
  obtain ⟨q0, q1, q2, q3, q4, q5, q6, q7, q8, q9, q11, qs, hq, qc0, qc1, qc2, qc3, qc4, qc5, qc6, qc7, qc8, qc9, qc10, qc11⟩ : ∃ (q0 q1 q2 q3 q4 q5 q6 q7 q8 q9 q11 : Int) (qs : ByteArray), its[j].cells = [.int .i64 q0, .int .i64 q1, .int .i64 q2, .int .i64 q3, .int .i64 q4, .int .i64 q5, .int .i64 q6, .int .i64 q7, .int .i64 q8, .int .i64 q9, .string qs, .int .i64 q11] ∧ w.cell? ⟨g, j * 12, none⟩ = some (.int .i64 q0) ∧ w.cell? ⟨g, j * 12 + 1, none⟩ = some (.int .i64 q1) ∧ w.cell? ⟨g, j * 12 + 2, none⟩ = some (.int .i64 q2) ∧ w.cell? ⟨g, j * 12 + 3, none⟩ = some (.int .i64 q3) ∧ w.cell? ⟨g, j * 12 + 4, none⟩ = some (.int .i64 q4) ∧ w.cell? ⟨g, j * 12 + 5, none⟩ = some (.int .i64 q5) ∧ w.cell? ⟨g, j * 12 + 6, none⟩ = some (.int .i64 q6) ∧ w.cell? ⟨g, j * 12 + 7, none⟩ = some (.int .i64 q7) ∧ w.cell? ⟨g, j * 12 + 8, none⟩ = some (.int .i64 q8) ∧ w.cell? ⟨g, j * 12 + 9, none⟩ = some (.int .i64 q9) ∧ w.cell? ⟨g, j * 12 + 10, none⟩ = some (.string qs) ∧ w.cell? ⟨g, j * 12 + 11, none⟩ = some (.int .i64 q11) :=
    ⟨_, _, _, _, _, _, _, _, _, _, _, _, rfl, h.cell (o := 0) hj (by omega) rfl, h.cell (o := 1) hj (by omega) rfl, h.cell (o := 2) hj (by omega) rfl, h.cell (o := 3) hj (by omega) rfl, h.cell (o := 4) hj (by omega) rfl, h.cell (o := 5) hj (by omega) rfl, h.cell (o := 6) hj (by omega) rfl, h.cell (o := 7) hj (by omega) rfl, h.cell (o := 8) hj (by omega) rfl, h.cell (o := 9) hj (by omega) rfl, h.cell (o := 10) hj (by omega) rfl, h.cell (o := 11) hj (by omega) rfl⟩
  have HX : Hid (its[i].cells = [.int .i64 p0, .int .i64 p1, .int .i64 p2, .int .i64 p3, .int .i64 p4, .int .i64 p5, .int .i64 p6, .int .i64 p7, .int .i64 p8, .int .i64 p9, .string ps, .int .i64 p11] ∧ its[j].cells = [.int .i64 q0, .int .i64 q1, .int .i64 q2, .int .i64 q3, .int .i64 q4, .int .i64 q5, .int .i64 q6, .int .i64 q7, .int .i64 q8, .int .i64 q9, .string qs, .int .i64 q11]) := ⟨hp, hq⟩
  have fz : ∀ o, w.frozen? ⟨g, o, none⟩ = false := frozen_of_heap h.blk
  clear h hp hq
  by_cases hij : i = j
  · subst hij
    obtain ⟨A, hA⟩ : ∃ A, i * 12 = A := ⟨_, rfl⟩
    rw [hA] at pc0 pc1 pc2 pc3 pc4 pc5 pc6 pc7 pc8 pc9 pc10 pc11 qc0 qc1 qc2 qc3 qc4 qc5 qc6 qc7 qc8 qc9 qc10 qc11
    have hpq : ([.int .i64 p0, .int .i64 p1, .int .i64 p2, .int .i64 p3, .int .i64 p4, .int .i64 p5, .int .i64 p6, .int .i64 p7, .int .i64 p8, .int .i64 p9, .string ps, .int .i64 p11] : List Value) = [.int .i64 q0, .int .i64 q1, .int .i64 q2, .int .i64 q3, .int .i64 q4, .int .i64 q5, .int .i64 q6, .int .i64 q7, .int .i64 q8, .int .i64 q9, .string qs, .int .i64 q11] := HX.out.1.symm.trans HX.out.2
    simp only [List.cons.injEq, Value.int.injEq, Value.string.injEq, true_and, and_true] at hpq
    obtain ⟨rfl, rfl, rfl, rfl, rfl, rfl, rfl, rfl, rfl, rfl, rfl, rfl⟩ := hpq
    clear qc0 qc1 qc2 qc3 qc4 qc5 qc6 qc7 qc8 qc9 qc10 qc11 a2 a3
    go_enter Tryz.func233, Tryz.ntmps233
    go_upto_region 0 with fail
    go_region
    all_goals go_wp2
    go_end0
    refine ⟨rfl, 1, ?_⟩
    rw [HX.out.1, hA]
    rfl
  · obtain ⟨A, hA⟩ : ∃ A, A = i * 12 := ⟨_, rfl⟩
    obtain ⟨B, hB⟩ : ∃ B, B = j * 12 := ⟨_, rfl⟩
    have f0 : ¬ B = A := by omega
    have g0 : ¬ A = B := by omega
    have f1 : ¬ B = A + 1 := by omega
    have g1 : ¬ B + 1 = A := by omega
    have k1 : ¬ A = B + 1 := by omega
    have l1 : ¬ A + 1 = B := by omega
    have f2 : ¬ B = A + 2 := by omega
    have g2 : ¬ B + 2 = A := by omega
    have k2 : ¬ A = B + 2 := by omega
    have l2 : ¬ A + 2 = B := by omega
    have f3 : ¬ B = A + 3 := by omega
    have g3 : ¬ B + 3 = A := by omega
    have k3 : ¬ A = B + 3 := by omega
    have l3 : ¬ A + 3 = B := by omega
    have f4 : ¬ B = A + 4 := by omega
    have g4 : ¬ B + 4 = A := by omega
    have k4 : ¬ A = B + 4 := by omega
    have l4 : ¬ A + 4 = B := by omega
    have f5 : ¬ B = A + 5 := by omega
    have g5 : ¬ B + 5 = A := by omega
    have k5 : ¬ A = B + 5 := by omega
    have l5 : ¬ A + 5 = B := by omega
    have f6 : ¬ B = A + 6 := by omega
    have g6 : ¬ B + 6 = A := by omega
    have k6 : ¬ A = B + 6 := by omega
    have l6 : ¬ A + 6 = B := by omega
    have f7 : ¬ B = A + 7 := by omega
    have g7 : ¬ B + 7 = A := by omega
    have k7 : ¬ A = B + 7 := by omega
    have l7 : ¬ A + 7 = B := by omega
    have f8 : ¬ B = A + 8 := by omega
    have g8 : ¬ B + 8 = A := by omega
    have k8 : ¬ A = B + 8 := by omega
    have l8 : ¬ A + 8 = B := by omega
    have f9 : ¬ B = A + 9 := by omega
    have g9 : ¬ B + 9 = A := by omega
    have k9 : ¬ A = B + 9 := by omega
    have l9 : ¬ A + 9 = B := by omega
    have f10 : ¬ B = A + 10 := by omega
    have g10 : ¬ B + 10 = A := by omega
    have k10 : ¬ A = B + 10 := by omega
    have l10 : ¬ A + 10 = B := by omega
    have f11 : ¬ B = A + 11 := by omega
    have g11 : ¬ B + 11 = A := by omega
    have k11 : ¬ A = B + 11 := by omega
    have l11 : ¬ A + 11 = B := by omega
    have HA : Hid (A = i * 12 ∧ B = j * 12) := ⟨hA, hB⟩
    rw [← hA] at pc0 pc1 pc2 pc3 pc4 pc5 pc6 pc7 pc8 pc9 pc10 pc11
    rw [← hB] at qc0 qc1 qc2 qc3 qc4 qc5 qc6 qc7 qc8 qc9 qc10 qc11
    replace hA : i * 12 = A := hA.symm
    replace hB : j * 12 = B := hB.symm
    clear hij
    go_enter Tryz.func233, Tryz.ntmps233
    go_upto_region 0 with fail
    go_region
    all_goals go_wp2
    go_end0
    refine ⟨rfl, 1, ?_⟩
    rw [HX.out.1, HX.out.2, hA, hB]
    rfl

end Go.Proofs.YtckmppkdpnhodaaGreatDoor

namespace Go.Proofs.YtckmppkdpnhodaaGreatDoor
set_option linter.unusedVariables false
set_option linter.unusedSimpArgs false

def swapF (k : Nat → Nat) (i j : Nat) : Nat → Nat := fun t => if t = i then k j else if t = j then k i else k t

theorem swapF_l (k : Nat → Nat) (i j : Nat) : swapF k i j i = k j := by simp [swapF]
theorem swapF_r (k : Nat → Nat) (i j : Nat) : swapF k i j j = k i := by
  unfold swapF
  by_cases h : j = i
  · subst h; simp
  · simp [h]
theorem swapF_o (k : Nat → Nat) {i j t : Nat} (h1 : t ≠ i) (h2 : t ≠ j) : swapF k i j t = k t := by simp [swapF, h1, h2]

/-- From the place lo on each is not due behind its children. -/
def HeapFrom (lo n : Nat) (k : Nat → Nat) : Prop := ∀ c, 0 < c → c < n → lo ≤ (c - 1) / 2 → k ((c - 1) / 2) ≤ k c

theorem HeapFrom.root {n : Nat} {k : Nat → Nat} (h : HeapFrom 0 n k) : ∀ c, c < n → k 0 ≤ k c := by
  intro c
  induction c using Nat.strongRecOn with
  | _ c ih =>
    intro hc
    by_cases h0 : c = 0
    · subst h0; exact Nat.le_refl _
    · exact Nat.le_trans (ih ((c - 1) / 2) (by omega) (by omega)) (h c (by omega) hc (Nat.zero_le _))

structure UpInv (n j : Nat) (k : Nat → Nat) : Prop where
  ok : ∀ c, 0 < c → c < n → c ≠ j → k ((c - 1) / 2) ≤ k c
  gr : ∀ c, 0 < c → c < n → (c - 1) / 2 = j → 0 < j → k ((j - 1) / 2) ≤ k c

theorem UpInv.start {n : Nat} {k : Nat → Nat} (h : HeapFrom 0 n k) : UpInv (n + 1) n k :=
  ⟨fun c h0 hc hn => h c h0 (by omega) (Nat.zero_le _), fun c h0 hc hp => by omega⟩

theorem UpInv.done {n j : Nat} {k : Nat → Nat} (h : UpInv n j k) (hj : j = 0 ∨ k ((j - 1) / 2) ≤ k j) : HeapFrom 0 n k := fun c h0 hc _ => by
  by_cases e : c = j
  · subst e
    rcases hj with hj | hj
    · omega
    · exact hj
  · exact h.ok c h0 hc e

theorem UpInv.step {n j : Nat} {k : Nat → Nat} (h : UpInv n j k) (hj : 0 < j) (hjn : j < n) (hl : k j < k ((j - 1) / 2)) : UpInv n ((j - 1) / 2) (swapF k ((j - 1) / 2) j) := by
  have hp : (j - 1) / 2 ≠ j := by omega
  refine ⟨fun c h0 hc hne => ?_, fun c h0 hc hcp hp0 => ?_⟩
  · by_cases hcj : c = j
    · subst hcj
      rw [swapF_l, swapF_r]
      omega
    · rw [swapF_o k (t := c) hne hcj]
      by_cases hpc : (c - 1) / 2 = j
      · rw [hpc, swapF_r]
        exact h.gr c h0 hc hpc hj
      · by_cases hpp : (c - 1) / 2 = (j - 1) / 2
        · rw [hpp, swapF_l]
          have := h.ok c h0 hc hcj
          rw [hpp] at this
          omega
        · rw [swapF_o k hpp hpc]
          exact h.ok c h0 hc hcj
  · have hpj : ((j - 1) / 2 - 1) / 2 ≠ (j - 1) / 2 := by omega
    have hpj2 : ((j - 1) / 2 - 1) / 2 ≠ j := by omega
    rw [swapF_o k hpj hpj2]
    have hg := h.ok ((j - 1) / 2) hp0 (by omega) hp
    by_cases hcj : c = j
    · subst hcj
      rw [swapF_r]
      exact hg
    · rw [swapF_o k (t := c) (by omega) hcj]
      have := h.ok c h0 hc hcj
      rw [hcp] at this
      omega

structure DnInv (lo n i : Nat) (k : Nat → Nat) : Prop where
  ok : ∀ c, 0 < c → c < n → lo ≤ (c - 1) / 2 → (c - 1) / 2 ≠ i → k ((c - 1) / 2) ≤ k c
  gr : lo < i → ∀ c, 0 < c → c < n → (c - 1) / 2 = i → k ((i - 1) / 2) ≤ k c
  le : lo ≤ i
  up : lo < i → lo ≤ (i - 1) / 2

theorem DnInv.start {lo n : Nat} {k : Nat → Nat} (h : HeapFrom (lo + 1) n k) : DnInv lo n lo k :=
  ⟨fun c h0 hc hp hne => h c h0 hc (by omega), fun h => by omega, Nat.le_refl _, fun h => by omega⟩

theorem DnInv.done {lo n i : Nat} {k : Nat → Nat} (h : DnInv lo n i k) (hd : ∀ c, 0 < c → c < n → (c - 1) / 2 = i → k i ≤ k c) : HeapFrom lo n k := fun c h0 hc hp => by
  by_cases e : (c - 1) / 2 = i
  · rw [e]; exact hd c h0 hc e
  · exact h.ok c h0 hc hp e

theorem DnInv.step {lo n i j : Nat} {k : Nat → Nat} (h : DnInv lo n i k) (hj : (j - 1) / 2 = i) (hj0 : 0 < j) (hjn : j < n) (hm : ∀ c, 0 < c → c < n → (c - 1) / 2 = i → k j ≤ k c) (hl : k j < k i) : DnInv lo n j (swapF k i j) := by
  have hij : i ≠ j := by omega
  have hle := h.le
  refine ⟨fun c h0 hc hp hne => ?_, fun hlo c h0 hc hcp => ?_, by omega, fun _ => by omega⟩
  · by_cases hcj : c = j
    · subst hcj
      rw [hj, swapF_l, swapF_r]
      omega
    · by_cases hpi : (c - 1) / 2 = i
      · rw [hpi, swapF_l, swapF_o k (t := c) (by omega) hcj]
        exact hm c h0 hc hpi
      · by_cases hci : c = i
        · subst hci
          rw [swapF_l, swapF_o k hpi hne]
          exact h.gr (by omega) j hj0 hjn hj
        · rw [swapF_o k hpi hne, swapF_o k hci hcj]
          exact h.ok c h0 hc hp hpi
  · rw [hj, swapF_l]
    rw [swapF_o k (t := c) (by omega) (by omega)]
    have := h.ok c h0 hc (by omega) (by omega)
    rw [hcp] at this
    exact this

end Go.Proofs.YtckmppkdpnhodaaGreatDoor

namespace Go.Proofs.YtckmppkdpnhodaaGreatDoor
set_option linter.unusedVariables false
set_option linter.unusedSimpArgs false
open Go.RowKit Go.Proofs

attribute [local go_sem ↓] Go.wp_at_zero Go.wp_at_succ

/-- Two items change places. -/
def swapL (its : List It) (i j : Nat) : List It :=
  match its[i]?, its[j]? with
  | some x, some y => (its.set i y).set j x
  | _, _ => its

theorem swapL_eq {its : List It} {i j : Nat} (hi : i < its.length) (hj : j < its.length) : swapL its i j = (its.set i its[j]).set j its[i] := by
  simp [swapL, hi, hj]

theorem swapL_length (its : List It) (i j : Nat) : (swapL its i j).length = its.length := by
  unfold swapL
  split <;> simp

def kF (its : List It) (t : Nat) : Nat := (its[t]?.map It.due).getD 0

theorem kF_get {its : List It} {t : Nat} (h : t < its.length) : kF its t = its[t].due := by simp [kF, h]

theorem swapL_get {its : List It} {i j : Nat} (hi : i < its.length) (hj : j < its.length) (t : Nat) : (swapL its i j)[t]? = if t = j then its[i]? else if t = i then its[j]? else its[t]? := by
  rw [swapL_eq hi hj, List.getElem?_set]
  by_cases h1 : j = t
  · subst h1
    simp [hj, hi]
  · rw [if_neg h1, if_neg (fun e => h1 e.symm), List.getElem?_set]
    by_cases h2 : i = t
    · subst h2
      simp [hi, hj]
    · rw [if_neg h2, if_neg (fun e => h2 e.symm)]

theorem kF_swap {its : List It} {i j : Nat} (hi : i < its.length) (hj : j < its.length) : kF (swapL its i j) = swapF (kF its) i j := by
  funext t
  unfold kF swapF
  rw [swapL_get hi hj]
  by_cases h2 : t = i
  · subst h2
    by_cases h1 : t = j
    · subst h1; simp
    · simp [h1]
  · by_cases h1 : t = j
    · subst h1; simp [h2]
    · simp [h1, h2]

theorem swapL_perm {its : List It} {i j : Nat} (hi : i < its.length) (hj : j < its.length) : (swapL its i j).Perm its := by
  classical
  rw [swapL_eq hi hj, List.perm_iff_count]
  intro a
  by_cases hij : i = j
  · subst hij; simp
  · have e1 := List.count_set (a := its[i]) (b := a) (l := its.set i its[j]) (i := j) (by simpa using hj)
    have e2 := List.count_set (a := its[j]) (b := a) (l := its) (i := i) hi
    rw [e1, e2]
    have e3 : (its.set i its[j])[j]'(by simpa using hj) = its[j] := List.getElem_set_ne hij _
    rw [e3]
    have c1 : (if its[i] == a then 1 else 0) ≤ its.count a := by
      split
      · rename_i h
        have : a ∈ its := by rw [← beq_iff_eq.1 h]; exact List.getElem_mem hi
        exact List.count_pos_iff.2 this
      · exact Nat.zero_le _
    omega

theorem QRow.swap0 {w : World} {g cap : Nat} {its : List It} {cur : Array Value} (h : QRow w g cap its cur) {i j : Nat} (hi : i < its.length) (hj : j < its.length) {xi xj : List Value} (exi : xi = its[i].cells) (exj : xj = its[j].cells) (n : Nat) :
    ∃ cur', QRow ((setMany' (setMany' w g (i * 12) xj) g (j * 12) xi).drewN n) g cap (swapL its i j) cur' ∧ cur'.size = cur.size := by
  have hs : its.length * 12 ≤ cur.size := Nat.le_trans (Nat.mul_le_mul_right _ h.le) h.size
  have h1 := setMany_heap xj (i * 12) w cur h.blk
  have h2 := setMany_heap xi (j * 12) _ _ h1
  refine ⟨putMany (putMany cur (i * 12) xj) (j * 12) xi, ⟨h2, by rw [swapL_length]; exact h.le, by rw [putMany_size, putMany_size]; exact h.size, ?_⟩, by rw [putMany_size, putMany_size]⟩
  rw [swapL_length, swapL_eq hi hj]
  have r1 := itRow_set rfl hs h.row hi its[j]
  rw [exi, exj]
  exact itRow_set (n := its.length) (by simp) (by rw [putMany_size]; exact hs) r1 hj its[i]

theorem QRow.swap {w : World} {g cap : Nat} {its : List It} {cur : Array Value} (h : QRow w g cap its cur) {i j : Nat} (hi : i < its.length) (hj : j < its.length) (n : Nat) :
    ∃ cur', QRow ((setMany' (setMany' w g (i * 12) its[j].cells) g (j * 12) its[i].cells).drewN n) g cap (swapL its i j) cur' ∧ cur'.size = cur.size := h.swap0 hi hj rfl rfl n

theorem QRow.below {w w' : World} {g cap : Nat} {its : List It} {cur : Array Value} (h : QRow w g cap its cur) (hb : Below w.heap.size w w') : QRow w' g cap its cur :=
  ⟨(hb.block g (Array.getElem?_eq_some_iff.1 h.blk).1).trans h.blk, h.le, h.size, h.row⟩

theorem upd_drewN {S : List (Option Nat)} {w w' : World} (h : Upd S w w') : ∀ n, Upd S w (w'.drewN n) := fun n => ⟨h.os, h.tape, h.output, h.size, h.block⟩

theorem meth_Swap (rb : Nat) (W : World) (a : Option Addr) (n c : Nat) (h : W.cell? ⟨rb, 11, none⟩ = some (.slice a n c)) : (method 409 175 (.pointer (some ⟨rb, 11, none⟩)) "Swap").run Tryz.prog W = .ok (233, .slice a n c) W := by
  have e1 : (method 409 175 (.pointer (some ⟨rb, 11, none⟩)) "Swap").run Tryz.prog W = ((receiverAt 175 (.val (.pointer (some ⟨rb, 11, none⟩))) false (some "Swap") >>= fun v => pure (233, v)) : Sem (FuncId × Value)).run Tryz.prog W := by kernel_rfl
  have e2 : (receiverAt 175 (.val (.pointer (some ⟨rb, 11, none⟩))) false (some "Swap")).run Tryz.prog W = (loadVar 108 ⟨rb, 11, none⟩).run Tryz.prog W := by kernel_rfl
  have e3 : (loadVar 108 ⟨rb, 11, none⟩).run Tryz.prog W = .ok (.slice a n c) W := by go_simp
  rw [e1]
  have e4 := e2.trans e3
  simp [go_sem, e4]

/-- What a turn of the row leaves. -/
structure Turn (w : World) (g cap : Nat) (its : List It) (cur : Array Value) (its' : List It) (cur' : Array Value) (W : World) : Prop where
  row : QRow W g cap its' cur'
  csz : cur'.size = cur.size
  perm : its'.Perm its
  len : its'.length = its.length
  upd : Upd [some g] w W

theorem Turn.refl {w : World} {g cap : Nat} {its : List It} {cur : Array Value} (h : QRow w g cap its cur) : Turn w g cap its cur its cur w := ⟨h, rfl, List.Perm.refl _, rfl, Upd.refl _ _⟩

theorem Turn.below {w : World} {g cap : Nat} {its its' : List It} {cur cur' : Array Value} {W W' : World} (h : Turn w g cap its cur its' cur' W) (hb : Below W.heap.size W W') : Turn w g cap its cur its' cur' W' :=
  ⟨h.row.below hb, h.csz, h.perm, h.len, h.upd.trans (Upd.of_below (S := [some g]) hb) (fun i hi => .inl hi)⟩

theorem Turn.swap {w : World} {g cap : Nat} {its its' : List It} {cur cur' : Array Value} {W : World} (h : Turn w g cap its cur its' cur' W) {i j : Nat} (hi : i < its'.length) (hj : j < its'.length) (n : Nat) :
    ∃ cur'', Turn w g cap its cur (swapL its' i j) cur'' ((setMany' (setMany' W g (i * 12) its'[j].cells) g (j * 12) its'[i].cells).drewN n) := by
  obtain ⟨c, h1, h2⟩ := h.row.swap hi hj n
  exact ⟨c, h1, h2.trans h.csz, (swapL_perm hi hj).trans h.perm, (swapL_length _ _ _).trans h.len, upd_drewN (h.upd.trans ((setMany_upd _ _ _).trans (setMany_upd _ _ _) (fun i hi => .inl hi)) (fun i hi => .inl hi)) n⟩

theorem Turn.cell11 {w : World} {g cap : Nat} {its its' : List It} {cur cur' : Array Value} {W : World} (h : Turn w g cap its cur its' cur' W) {rb o : Nat} {v : Value} (hc : w.cell? ⟨rb, o, none⟩ = some v) (hne : g ≠ rb) : W.cell? ⟨rb, o, none⟩ = some v :=
  (World.cell?_of_block (a := ⟨rb, o, none⟩) (h.upd.block rb (World.block_lt_of_cell? w _ hc) (by simp; exact fun e => hne e.symm))).trans hc

end Go.Proofs.YtckmppkdpnhodaaGreatDoor

namespace Go.Proofs.YtckmppkdpnhodaaGreatDoor
set_option linter.unusedVariables false
set_option linter.unusedSimpArgs false
open Go.RowKit Go.Proofs

attribute [local go_sem ↓] Go.wp_at_zero Go.wp_at_succ

set_option maxRecDepth 100000 in
set_option maxHeartbeats 4000000 in
theorem upG (rb g cap j : Nat) (its : List It) (hj : j < its.length) (hn : its.length ≤ 1000) (cur : Array Value) (w : World) (h11 : w.cell? ⟨rb, 11, none⟩ = some (.slice (some ⟨g, 0, none⟩) its.length cap)) (hq : QRow w g cap its cur) (hne : g ≠ rb) (hI : UpInv its.length j (kF its)) :
    Calls Tryz.prog 128 #[.iface 175 (.pointer (some ⟨rb, 11, none⟩)), .int .i64 (j : Int)] w fun e w' => e = .returned (.tuple #[]) ∧ ∃ its' cur', Turn w g cap its cur its' cur' w' ∧ HeapFrom 0 its.length (kF its') := by
  have H11 : Hid (w.cell? ⟨rb, 11, none⟩ = some (.slice (some ⟨g, 0, none⟩) its.length cap)) := h11
  have HT0 : Hid (Turn w g cap its cur its cur w) := Turn.refl hq
  have HI0 : Hid (UpInv its.length j (kF its)) := hI
  clear h11 hq hI
  go_enter Tryz.func128, Tryz.ntmps128
  go_wp2
  go_loopw [1] (fun v wr => ∃ m : Nat, v = .int .i64 m ∧ m < its.length ∧ ∃ its' cur', Hid (Turn w g cap its cur its' cur' wr ∧ UpInv its.length m (kF its'))) (fun v _ => (intOf v).toNat)
  case atStart => exact ⟨j, rfl, hj, its, cur, HT0.out, HI0.out⟩
  case round =>
    obtain ⟨m, rfl, hm, its', cur', HT⟩ := hrel
    have hlen := HT.out.1.len
    have hc11 := HT.out.1.cell11 H11.out hne
    have hmL := meth_Less rb wr _ _ _ hc11
    rcases m with _ | m
    · have q0 : ((0 : Int) - 1).tdiv 2 = 0 := by decide
      go_wp2
      go_end0
      exact ⟨rfl, its', cur', HT.out.1, HT.out.2.done (.inl rfl)⟩
    · have hqb : ((m : Int) / 2 == (m : Int) + 1) = false := by simp; omega
      have hp : ((m + 1) - 1) / 2 = m / 2 := by simp
      have k1 : kF its' (m + 1) = (its'[m + 1]'(by omega)).due := kF_get (by omega)
      have k2 : kF its' (m / 2) = (its'[m / 2]'(by omega)).due := kF_get (by omega)
      have HLm : Hid (Calls Tryz.prog 232 #[.slice (some ⟨g, 0, none⟩) its.length cap, .int .i64 ((m : Int) + 1), .int .i64 ((m : Int) / 2)] wr fun e w' => e = .returned (.bool (decide (kF its' (m + 1) < kF its' (m / 2)))) ∧ Below wr.heap.size wr w') := by
        have := lessG g its.length cap (m + 1) (m / 2) (its'[m + 1]'(by omega)).due (its'[m / 2]'(by omega)).due hm (by omega) hn wr (by have := HT.out.1.row.cell (i := m + 1) (o := 0) (by omega) (by omega) rfl; simpa using this) (by have := HT.out.1.row.cell (i := m / 2) (o := 0) (by omega) (by omega) rfl; simpa using this)
        rw [show ((m / 2 : Nat) : Int) = (m : Int) / 2 by omega, show ((m + 1 : Nat) : Int) = (m : Int) + 1 by omega, ← k1, ← k2] at this
        exact this
      by_cases hlt : kF its' (m + 1) < kF its' (m / 2)
      · rw [decide_eq_true hlt] at HLm
        have HS : Hid (∀ W, Below wr.heap.size wr W → W.cell? ⟨rb, 11, none⟩ = some (.slice (some ⟨g, 0, none⟩) its.length cap) ∧ Calls Tryz.prog 233 #[.slice (some ⟨g, 0, none⟩) its.length cap, .int .i64 ((m : Int) / 2), .int .i64 ((m : Int) + 1)] W fun e w' => e = .returned (.tuple #[]) ∧ ∃ its'' cur'', Turn w g cap its cur its'' cur'' w' ∧ UpInv its.length (m / 2) (kF its'')) := fun W hW => by
          have ht := HT.out.1.below hW
          have hi1 : m / 2 < its'.length := by omega
          have hi2 : m + 1 < its'.length := by omega
          refine ⟨ht.cell11 H11.out hne, ?_⟩
          have := swapG g cap (m / 2) (m + 1) its' hi1 hi2 (by omega) cur' W ht.row
          rw [show ((m / 2 : Nat) : Int) = (m : Int) / 2 by omega, show ((m + 1 : Nat) : Int) = (m : Int) + 1 by omega, hlen] at this
          refine this.mono ?_
          rintro e w' ⟨he, n, rfl⟩
          obtain ⟨c, hc⟩ := ht.swap hi1 hi2 n
          refine ⟨he, _, c, hc, ?_⟩
          rw [kF_swap hi1 hi2]
          have hs := HT.out.2.step (by omega) hm (by rw [hp]; exact hlt)
          rw [hp] at hs
          exact hs
        clear hlt k1 k2
        go_wp2_with (first
          | (go_at_call 232; refine HLm.out.mono ?_; rintro e w1 ⟨rfl, hb1⟩; obtain ⟨hc1, hS1⟩ := HS.out w1 hb1; have hmS := meth_Swap rb w1 _ _ _ hc1; have HS1 : Hid _ := hS1; clear hS1)
          | (go_at_call 233; refine Calls.mono HS1.out ?_; rintro e w2 ⟨rfl, its2, cur2, hT2, hU2⟩))
        go_roundw
        case rel => exact ⟨m / 2, by go_num, by omega, its2, cur2, hT2, hU2⟩
        case measure => simp [intOf]; omega
      · rw [decide_eq_false hlt] at HLm
        have HE : Hid (HeapFrom 0 its.length (kF its')) := HT.out.2.done (.inr (by rw [hp]; omega))
        clear hlt k1 k2
        go_wp2_with (go_at_call 232; refine HLm.out.mono ?_; rintro e w1 ⟨rfl, hb1⟩)
        go_end0
        exact ⟨rfl, its', cur', HT.out.1.below hb1, HE.out⟩

end Go.Proofs.YtckmppkdpnhodaaGreatDoor
