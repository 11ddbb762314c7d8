/-
  Contracts of (Reach).Join, (Reach).Has. A region that draws its order, inside a round of a range over a function: by the laws of a region outside of one. Contract of cart.endsOf: what ends what. Contracts of (ends).has, (Cart).put, HasItem, HasCoupon. Contracts of (Cart).put, HasItem, HasCoupon. Contract of cart.Of: the cart of a log. Contracts of (*Log).put, (*Log).Do. Contracts of the queue's methods, heap.Push, (*Box).Put.
-/
import Derived.Test.YtckmppkdpnhodaaGreatDoorT04
import Derived.OrdersIn
import Derived.OrdersHeld
import Derived.Deep.RegionHeld3
import Derived.Deep.RegionLaw
namespace Go.Proofs.YtckmppkdpnhodaaGreatDoor
set_option linter.unusedVariables false
set_option linter.unusedSimpArgs false
open Go.RowKit Go.Proofs

attribute [local go_sem ↓] Go.wp_at_zero Go.wp_at_succ

def ag5 (a0 a1 a2 a3 a4 : Nat) : Value := .agg #[.int .i64 (a0 : Int), .int .i64 (a1 : Int), .int .i64 (a2 : Int), .int .i64 (a3 : Int), .int .i64 (a4 : Int)]

set_option maxRecDepth 100000 in
set_option maxHeartbeats 4000000 in
theorem join_any (a0 a1 a2 a3 a4 b0 b1 b2 b3 b4 : Nat) (w : World) :
    Calls Tryz.prog 129 #[.agg #[.int .i64 (a0 : Int), .int .i64 (a1 : Int), .int .i64 (a2 : Int), .int .i64 (a3 : Int), .int .i64 (a4 : Int)], .agg #[.int .i64 (b0 : Int), .int .i64 (b1 : Int), .int .i64 (b2 : Int), .int .i64 (b3 : Int), .int .i64 (b4 : Int)]] w fun e w' =>
      e = .returned (ag5 (max a0 b0) (max a1 b1) (max a2 b2) (max a3 b3) (max a4 b4)) ∧ Below w.heap.size w w' := by
  have i0 : ∀ w, (Instr.index 102 (.agg #[.int .i64 (b0 : Int), .int .i64 (b1 : Int), .int .i64 (b2 : Int), .int .i64 (b3 : Int), .int .i64 (b4 : Int)]) (.int .i64 0)).run Tryz.prog w = .ok (.int .i64 (b0 : Int)) w := fun _ => by kernel_rfl
  have i1 : ∀ w, (Instr.index 102 (.agg #[.int .i64 (b0 : Int), .int .i64 (b1 : Int), .int .i64 (b2 : Int), .int .i64 (b3 : Int), .int .i64 (b4 : Int)]) (.int .i64 1)).run Tryz.prog w = .ok (.int .i64 (b1 : Int)) w := fun _ => by kernel_rfl
  have i2 : ∀ w, (Instr.index 102 (.agg #[.int .i64 (b0 : Int), .int .i64 (b1 : Int), .int .i64 (b2 : Int), .int .i64 (b3 : Int), .int .i64 (b4 : Int)]) (.int .i64 2)).run Tryz.prog w = .ok (.int .i64 (b2 : Int)) w := fun _ => by kernel_rfl
  have i3 : ∀ w, (Instr.index 102 (.agg #[.int .i64 (b0 : Int), .int .i64 (b1 : Int), .int .i64 (b2 : Int), .int .i64 (b3 : Int), .int .i64 (b4 : Int)]) (.int .i64 3)).run Tryz.prog w = .ok (.int .i64 (b3 : Int)) w := fun _ => by kernel_rfl
  have i4 : ∀ w, (Instr.index 102 (.agg #[.int .i64 (b0 : Int), .int .i64 (b1 : Int), .int .i64 (b2 : Int), .int .i64 (b3 : Int), .int .i64 (b4 : Int)]) (.int .i64 4)).run Tryz.prog w = .ok (.int .i64 (b4 : Int)) w := fun _ => by kernel_rfl
  go_enter Tryz.func129, Tryz.ntmps129
  go_wp2
  go_loopw [9] (fun v wr => ∃ j : Nat, j ≤ 5 ∧ v = .int .i64 j ∧ Hid (wr.heap[w.heap.size]? = some (.cells #[.int .i64 ((if 0 < j then max a0 b0 else a0 : Nat) : Int), .int .i64 ((if 1 < j then max a1 b1 else a1 : Nat) : Int), .int .i64 ((if 2 < j then max a2 b2 else a2 : Nat) : Int), .int .i64 ((if 3 < j then max a3 b3 else a3 : Nat) : Int), .int .i64 ((if 4 < j then max a4 b4 else a4 : Nat) : Int)] 104 (0, 0)) ∧ wr.heap[w.heap.size + 2]? = some (.cells #[.int .i64 0, .int .i64 0, .int .i64 0, .int .i64 0, .int .i64 0] 104 (0, 0)) ∧ Below w.heap.size w wr)) (fun v _ => 5 - (intOf v).toNat)
  case atStart =>
    refine ⟨0, by omega, rfl, ?_, ?_, ?_⟩
    · exact (Below.heap_alloc _ _ _ (by simp; omega)).trans ((Below.heap_alloc _ _ _ (by simp)).trans (heap_alloc_new w _))
    · have := heap_alloc_new ((w.alloc (.cells #[.int .i64 (a0 : Int), .int .i64 (a1 : Int), .int .i64 (a2 : Int), .int .i64 (a3 : Int), .int .i64 (a4 : Int)] 104)).alloc (.cells #[.int .i64 (b0 : Int), .int .i64 (b1 : Int), .int .i64 (b2 : Int), .int .i64 (b3 : Int), .int .i64 (b4 : Int)] 104)) (.cells #[.int .i64 0, .int .i64 0, .int .i64 0, .int .i64 0, .int .i64 0] 104)
      simpa only [World.size_alloc] using this
    · exact (((Below.refl _ w).alloc (Nat.le_refl _) _).alloc (by simp) _).alloc (by simp; omega) _
  case round =>
    obtain ⟨j, hj, rfl, hH⟩ := hrel
    obtain ⟨h1, h2, h3⟩ := hH.out
    rcases (show j = 0 ∨ j = 1 ∨ j = 2 ∨ j = 3 ∨ j = 4 ∨ j = 5 by omega) with rfl | rfl | rfl | rfl | rfl | rfl
    · have c0 : wr.cell? ⟨w.heap.size, 0, none⟩ = some (.int .i64 (a0 : Int)) := by rw [cell_of_heap h1]; rfl
      have f0 : wr.frozen? ⟨w.heap.size, 0, none⟩ = false := frozen_of_heap h1 0
      have hm : ((max a0 b0 : Nat) : Int) = max (a0 : Int) (b0 : Int) := by omega
      have HS : Hid ((wr.setCell ⟨w.heap.size, 0, none⟩ (.int .i64 (max (a0 : Int) (b0 : Int)))).heap[w.heap.size]? = some (.cells #[.int .i64 ((if 0 < 1 then max a0 b0 else a0 : Nat) : Int), .int .i64 ((if 1 < 1 then max a1 b1 else a1 : Nat) : Int), .int .i64 ((if 2 < 1 then max a2 b2 else a2 : Nat) : Int), .int .i64 ((if 3 < 1 then max a3 b3 else a3 : Nat) : Int), .int .i64 ((if 4 < 1 then max a4 b4 else a4 : Nat) : Int)] 104 (0, 0)) ∧ (wr.setCell ⟨w.heap.size, 0, none⟩ (.int .i64 (max (a0 : Int) (b0 : Int)))).heap[w.heap.size + 2]? = some (.cells #[.int .i64 0, .int .i64 0, .int .i64 0, .int .i64 0, .int .i64 0] 104 (0, 0)) ∧ Below w.heap.size w (wr.setCell ⟨w.heap.size, 0, none⟩ (.int .i64 (max (a0 : Int) (b0 : Int))))) := by
        refine ⟨?_, ?_, ?_⟩
        · rw [← hm, heap_setCell_same h1]; rfl
        · rw [Below.heap_setCell _ _ _ _ (by simp)]; exact h2
        · exact h3.setCell (by simp) _
      clear h1 h2 h3 hm
      go_wp2
      go_roundw
      case rel => exact ⟨1, by omega, rfl, HS⟩
      case measure => simp [intOf]
    · have c0 : wr.cell? ⟨w.heap.size, 1, none⟩ = some (.int .i64 (a1 : Int)) := by rw [cell_of_heap h1]; rfl
      have f0 : wr.frozen? ⟨w.heap.size, 1, none⟩ = false := frozen_of_heap h1 1
      have hm : ((max a1 b1 : Nat) : Int) = max (a1 : Int) (b1 : Int) := by omega
      have HS : Hid ((wr.setCell ⟨w.heap.size, 1, none⟩ (.int .i64 (max (a1 : Int) (b1 : Int)))).heap[w.heap.size]? = some (.cells #[.int .i64 ((if 0 < 2 then max a0 b0 else a0 : Nat) : Int), .int .i64 ((if 1 < 2 then max a1 b1 else a1 : Nat) : Int), .int .i64 ((if 2 < 2 then max a2 b2 else a2 : Nat) : Int), .int .i64 ((if 3 < 2 then max a3 b3 else a3 : Nat) : Int), .int .i64 ((if 4 < 2 then max a4 b4 else a4 : Nat) : Int)] 104 (0, 0)) ∧ (wr.setCell ⟨w.heap.size, 1, none⟩ (.int .i64 (max (a1 : Int) (b1 : Int)))).heap[w.heap.size + 2]? = some (.cells #[.int .i64 0, .int .i64 0, .int .i64 0, .int .i64 0, .int .i64 0] 104 (0, 0)) ∧ Below w.heap.size w (wr.setCell ⟨w.heap.size, 1, none⟩ (.int .i64 (max (a1 : Int) (b1 : Int))))) := by
        refine ⟨?_, ?_, ?_⟩
        · rw [← hm, heap_setCell_same h1]; rfl
        · rw [Below.heap_setCell _ _ _ _ (by simp)]; exact h2
        · exact h3.setCell (by simp) _
      clear h1 h2 h3 hm
      go_wp2
      go_roundw
      case rel => exact ⟨2, by omega, rfl, HS⟩
      case measure => simp [intOf]
    · have c0 : wr.cell? ⟨w.heap.size, 2, none⟩ = some (.int .i64 (a2 : Int)) := by rw [cell_of_heap h1]; rfl
      have f0 : wr.frozen? ⟨w.heap.size, 2, none⟩ = false := frozen_of_heap h1 2
      have hm : ((max a2 b2 : Nat) : Int) = max (a2 : Int) (b2 : Int) := by omega
      have HS : Hid ((wr.setCell ⟨w.heap.size, 2, none⟩ (.int .i64 (max (a2 : Int) (b2 : Int)))).heap[w.heap.size]? = some (.cells #[.int .i64 ((if 0 < 3 then max a0 b0 else a0 : Nat) : Int), .int .i64 ((if 1 < 3 then max a1 b1 else a1 : Nat) : Int), .int .i64 ((if 2 < 3 then max a2 b2 else a2 : Nat) : Int), .int .i64 ((if 3 < 3 then max a3 b3 else a3 : Nat) : Int), .int .i64 ((if 4 < 3 then max a4 b4 else a4 : Nat) : Int)] 104 (0, 0)) ∧ (wr.setCell ⟨w.heap.size, 2, none⟩ (.int .i64 (max (a2 : Int) (b2 : Int)))).heap[w.heap.size + 2]? = some (.cells #[.int .i64 0, .int .i64 0, .int .i64 0, .int .i64 0, .int .i64 0] 104 (0, 0)) ∧ Below w.heap.size w (wr.setCell ⟨w.heap.size, 2, none⟩ (.int .i64 (max (a2 : Int) (b2 : Int))))) := by
        refine ⟨?_, ?_, ?_⟩
        · rw [← hm, heap_setCell_same h1]; rfl
        · rw [Below.heap_setCell _ _ _ _ (by simp)]; exact h2
        · exact h3.setCell (by simp) _
      clear h1 h2 h3 hm
      go_wp2
      go_roundw
      case rel => exact ⟨3, by omega, rfl, HS⟩
      case measure => simp [intOf]
    · have c0 : wr.cell? ⟨w.heap.size, 3, none⟩ = some (.int .i64 (a3 : Int)) := by rw [cell_of_heap h1]; rfl
      have f0 : wr.frozen? ⟨w.heap.size, 3, none⟩ = false := frozen_of_heap h1 3
      have hm : ((max a3 b3 : Nat) : Int) = max (a3 : Int) (b3 : Int) := by omega
      have HS : Hid ((wr.setCell ⟨w.heap.size, 3, none⟩ (.int .i64 (max (a3 : Int) (b3 : Int)))).heap[w.heap.size]? = some (.cells #[.int .i64 ((if 0 < 4 then max a0 b0 else a0 : Nat) : Int), .int .i64 ((if 1 < 4 then max a1 b1 else a1 : Nat) : Int), .int .i64 ((if 2 < 4 then max a2 b2 else a2 : Nat) : Int), .int .i64 ((if 3 < 4 then max a3 b3 else a3 : Nat) : Int), .int .i64 ((if 4 < 4 then max a4 b4 else a4 : Nat) : Int)] 104 (0, 0)) ∧ (wr.setCell ⟨w.heap.size, 3, none⟩ (.int .i64 (max (a3 : Int) (b3 : Int)))).heap[w.heap.size + 2]? = some (.cells #[.int .i64 0, .int .i64 0, .int .i64 0, .int .i64 0, .int .i64 0] 104 (0, 0)) ∧ Below w.heap.size w (wr.setCell ⟨w.heap.size, 3, none⟩ (.int .i64 (max (a3 : Int) (b3 : Int))))) := by
        refine ⟨?_, ?_, ?_⟩
        · rw [← hm, heap_setCell_same h1]; rfl
        · rw [Below.heap_setCell _ _ _ _ (by simp)]; exact h2
        · exact h3.setCell (by simp) _
      clear h1 h2 h3 hm
      go_wp2
      go_roundw
      case rel => exact ⟨4, by omega, rfl, HS⟩
      case measure => simp [intOf]
    · have c0 : wr.cell? ⟨w.heap.size, 4, none⟩ = some (.int .i64 (a4 : Int)) := by rw [cell_of_heap h1]; rfl
      have f0 : wr.frozen? ⟨w.heap.size, 4, none⟩ = false := frozen_of_heap h1 4
      have hm : ((max a4 b4 : Nat) : Int) = max (a4 : Int) (b4 : Int) := by omega
      have HS : Hid ((wr.setCell ⟨w.heap.size, 4, none⟩ (.int .i64 (max (a4 : Int) (b4 : Int)))).heap[w.heap.size]? = some (.cells #[.int .i64 ((if 0 < 5 then max a0 b0 else a0 : Nat) : Int), .int .i64 ((if 1 < 5 then max a1 b1 else a1 : Nat) : Int), .int .i64 ((if 2 < 5 then max a2 b2 else a2 : Nat) : Int), .int .i64 ((if 3 < 5 then max a3 b3 else a3 : Nat) : Int), .int .i64 ((if 4 < 5 then max a4 b4 else a4 : Nat) : Int)] 104 (0, 0)) ∧ (wr.setCell ⟨w.heap.size, 4, none⟩ (.int .i64 (max (a4 : Int) (b4 : Int)))).heap[w.heap.size + 2]? = some (.cells #[.int .i64 0, .int .i64 0, .int .i64 0, .int .i64 0, .int .i64 0] 104 (0, 0)) ∧ Below w.heap.size w (wr.setCell ⟨w.heap.size, 4, none⟩ (.int .i64 (max (a4 : Int) (b4 : Int))))) := by
        refine ⟨?_, ?_, ?_⟩
        · rw [← hm, heap_setCell_same h1]; rfl
        · rw [Below.heap_setCell _ _ _ _ (by simp)]; exact h2
        · exact h3.setCell (by simp) _
      clear h1 h2 h3 hm
      go_wp2
      go_roundw
      case rel => exact ⟨5, by omega, rfl, HS⟩
      case measure => simp [intOf]
    · have c0 : wr.cell? ⟨w.heap.size, 0, none⟩ = some (.int .i64 ((max a0 b0 : Nat) : Int)) := by rw [cell_of_heap h1]; rfl
      have c1 : wr.cell? ⟨w.heap.size, 1, none⟩ = some (.int .i64 ((max a1 b1 : Nat) : Int)) := by rw [cell_of_heap h1]; rfl
      have c2 : wr.cell? ⟨w.heap.size, 2, none⟩ = some (.int .i64 ((max a2 b2 : Nat) : Int)) := by rw [cell_of_heap h1]; rfl
      have c3 : wr.cell? ⟨w.heap.size, 3, none⟩ = some (.int .i64 ((max a3 b3 : Nat) : Int)) := by rw [cell_of_heap h1]; rfl
      have c4 : wr.cell? ⟨w.heap.size, 4, none⟩ = some (.int .i64 ((max a4 b4 : Nat) : Int)) := by rw [cell_of_heap h1]; rfl
      have d0 : wr.cell? ⟨w.heap.size + 2, 0, none⟩ = some (.int .i64 0) := by rw [cell_of_heap h2]; rfl
      have d1 : wr.cell? ⟨w.heap.size + 2, 1, none⟩ = some (.int .i64 0) := by rw [cell_of_heap h2]; rfl
      have d2 : wr.cell? ⟨w.heap.size + 2, 2, none⟩ = some (.int .i64 0) := by rw [cell_of_heap h2]; rfl
      have d3 : wr.cell? ⟨w.heap.size + 2, 3, none⟩ = some (.int .i64 0) := by rw [cell_of_heap h2]; rfl
      have d4 : wr.cell? ⟨w.heap.size + 2, 4, none⟩ = some (.int .i64 0) := by rw [cell_of_heap h2]; rfl
      have g0 : wr.frozen? ⟨w.heap.size + 2, 0, none⟩ = false := frozen_of_heap h2 0
      have g1 : wr.frozen? ⟨w.heap.size + 2, 1, none⟩ = false := frozen_of_heap h2 1
      have g2 : wr.frozen? ⟨w.heap.size + 2, 2, none⟩ = false := frozen_of_heap h2 2
      have g3 : wr.frozen? ⟨w.heap.size + 2, 3, none⟩ = false := frozen_of_heap h2 3
      have g4 : wr.frozen? ⟨w.heap.size + 2, 4, none⟩ = false := frozen_of_heap h2 4
      clear h1 h2
      generalize hq0 : max a0 b0 = m0 at *
      have HQ0 : Hid (max a0 b0 = m0) := hq0
      clear hq0
      generalize hq1 : max a1 b1 = m1 at *
      have HQ1 : Hid (max a1 b1 = m1) := hq1
      clear hq1
      generalize hq2 : max a2 b2 = m2 at *
      have HQ2 : Hid (max a2 b2 = m2) := hq2
      clear hq2
      generalize hq3 : max a3 b3 = m3 at *
      have HQ3 : Hid (max a3 b3 = m3) := hq3
      clear hq3
      generalize hq4 : max a4 b4 = m4 at *
      have HQ4 : Hid (max a4 b4 = m4) := hq4
      clear hq4
      go_wp2
      exact bodyPost_ret (v := .agg #[.int .i64 (m0 : Int), .int .i64 (m1 : Int), .int .i64 (m2 : Int), .int .i64 (m3 : Int), .int .i64 (m4 : Int)]) (by simp [results, Tryz.results129, go_sem, d0, d1, d2, d3, d4]) rfl ⟨by rw [HQ0.out, HQ1.out, HQ2.out, HQ3.out, HQ4.out]; rfl, by repeat' first | exact h3 | refine Below.setCell ?_ (by first | (simp; done) | (simp; omega)) _⟩

set_option maxRecDepth 100000 in
set_option maxHeartbeats 1000000 in
theorem reachHas_any (a0 a1 a2 a3 a4 me s : Nat) (hme : me < 5) (m : Nat) (hm : [a0, a1, a2, a3, a4][me]? = some m) (w : World) :
    Calls Tryz.prog 130 #[.agg #[.int .i64 (a0 : Int), .int .i64 (a1 : Int), .int .i64 (a2 : Int), .int .i64 (a3 : Int), .int .i64 (a4 : Int)], .int .i64 (me : Int), .int .i64 (s : Int)] w fun e w' =>
      e = .returned (.bool (decide (s ≤ m))) ∧ Below w.heap.size w w' := by
  have hc : ∀ (cs : Array Value) (t : TypeId), cs[me]? = some (.int .i64 (m : Int)) → (w.alloc (.cells cs t)).cell? ⟨w.heap.size, me, none⟩ = some (.int .i64 (m : Int)) := fun cs t h => by
    rw [cell_of_heap (heap_alloc_new w (.cells cs t))]; exact h
  have hc' := hc #[.int .i64 (a0 : Int), .int .i64 (a1 : Int), .int .i64 (a2 : Int), .int .i64 (a3 : Int), .int .i64 (a4 : Int)] 104 (by
    rcases (show me = 0 ∨ me = 1 ∨ me = 2 ∨ me = 3 ∨ me = 4 by omega) with rfl | rfl | rfl | rfl | rfl <;> (simp at hm; subst hm; rfl))
  have k0 : (0 : Int) ≤ (me : Int) := by omega
  have k5 : (me : Int) < 5 := by omega
  clear hc hm
  go_enter Tryz.func130, Tryz.ntmps130
  go_wp2
  go_ret
  exact ⟨ret_bool (by simp), (Below.refl _ w).alloc (Nat.le_refl _) _⟩

end Go.Proofs.YtckmppkdpnhodaaGreatDoor

namespace Go.Proofs.YtckmppkdpnhodaaGreatDoor
set_option linter.unusedVariables false
set_option linter.unusedSimpArgs false
open Go.RowKit Go.Proofs

section
variable {P : Program} {md : Region.Mode} {ops : Array Oper} {Q : Exit → Act → World → Prop} {l n : Nat}

theorem rowsIn_of {row : String} {args : Array Value} {w : World} {R : Value → World → Prop} (h : Rows P row args w R) : RowsIn (Fence.wide.inRound l) n P row args w R :=
  fun c cs _ => let ⟨v, w', r, s⟩ := h c cs; ⟨v, w', r, stepsIn_wide.2 s⟩

theorem operIn_of {o : Oper} {a : Act} {w : World} {K : Act → World → Prop} (hd : ∀ c, o.op ≠ .defer c) (h : o.wp P a w K Q) : o.wpIn (Fence.wide.inRound l) n P a w K Q := by
  refine ⟨fun _ _ => trivial, ?_⟩
  rw [Fence.inRound_round, Oper.semAt_some l _ _ hd]
  unfold Oper.wp at h
  generalize (execOp a.eval o).run P w = r at *
  have hdp : (Fence.wide.inRound l).depth.isSome = true → 1 ≤ n := fun e => by cases e
  cases r with
  | ok x w' =>
    cases x <;> simp only [Oper.upon, Oper.uponIn] at h ⊢ <;>
      first
        | exact h
        | exact ⟨hdp, CallsIn.inRound l (callsIn_wide.2 h)⟩
        | exact ⟨hdp, rowsIn_of h⟩
        | exact h.elim
  | halt x w' => cases x <;> simp only [Oper.upon, Oper.uponIn] at h ⊢ <;> exact h

theorem opIn_of (hQ : ¬ LetsOut Q) {i : Nat} (hd : ∀ o, ops[i]? = some o → ∀ c, o.op ≠ .defer c) {K K' : Act → World → Prop} (hK : ∀ a w, K a w → K' a w) {a : Act} {w : World} (h : wpOp P ops Q i K a w) : wpOpIn (Fence.wide.inRound l) n P ops Q i K' a w := by
  unfold wpOp at h
  unfold wpOpIn
  cases ho : ops[i]? with
  | none => rw [ho] at h; exact hK _ _ h
  | some o =>
    rw [ho] at h
    simp only at h ⊢
    split at h
    · rename_i hw
      rw [if_pos hw]
      rcases h with h | h
      · exact (operIn_of (hd o ho) h).imp id (fun h' => (Oper.wpIn_mono hK ⟨fun _ _ => trivial, h'⟩).2)
      · exact absurd h.2 hQ
    · rename_i hw
      rw [if_neg hw]
      exact ⟨fun _ _ => trivial, hK _ _ h⟩

theorem anyIn_of (hQ : ¬ LetsOut Q) (hd : ∀ (i : Nat) (o : Oper), ops[i]? = some o → ∀ c, o.op ≠ .defer c) : ∀ (fuel : Nat) (listed : Array Bool) (a : Act) (w : World), wpAny P md ops Q fuel listed a w → wpAnyIn (Fence.wide.inRound l) n P md ops Q fuel listed a w
  | 0, _, _, _, h => h
  | fuel + 1, listed, a, w, h => ⟨h.1, fun i hi => opIn_of hQ (hd i) (fun a' w' h' => anyIn_of hQ hd fuel _ a' w' h') (h.2 i hi)⟩

/-- No operation of the region defers. -/
def noDefer (ops : Array Oper) : Bool := ops.toList.all fun o => match o.op with | .defer _ => false | _ => true

theorem noDefer_spec (h : noDefer ops = true) : ∀ (i : Nat) (o : Oper), ops[i]? = some o → ∀ c, o.op ≠ .defer c := fun i o ho c e => by
  simp only [noDefer, List.all_eq_true] at h
  have := h o (by
    obtain ⟨hi, rfl⟩ := Array.getElem?_eq_some_iff.1 ho
    simp)
  rw [e] at this
  cases this

/-- A region that draws its order, in a round. -/
theorem regionIn_held {S : World → Prop} {id : Nat} {a : Act} {w : World} (hm : P.follows .mixedOrders = true) (hQ : ¬ LetsOut Q) (hd : noDefer ops = true)
    (h : wpAnyH P .any ops Q S ops.size (Array.replicate ops.size false) a w.drew) : (Code.region id ops true).wpIn (Fence.wide.inRound l) n P Q a w :=
  wpIn_region_any hm (anyIn_of hQ (noDefer_spec hd) _ _ _ _ (wpAny_of_held _ _ _ _ h))
end

end Go.Proofs.YtckmppkdpnhodaaGreatDoor

namespace Go.Proofs.YtckmppkdpnhodaaGreatDoor
set_option linter.unusedVariables false
set_option linter.unusedSimpArgs false
open Go.RowKit Go.Proofs Go.Shelf

attribute [local go_sem] Oper.semAt_some

theorem keeps_below {W W' : World} (h : Below W.heap.size W W') : KeepsOthers W W' := ⟨h.size, fun k o ho _ => (h.block k (Array.getElem?_eq_some_iff.1 ho).1).trans ho⟩

end Go.Proofs.YtckmppkdpnhodaaGreatDoor

namespace Go.Proofs.YtckmppkdpnhodaaGreatDoor
set_option linter.unusedVariables false
set_option linter.unusedSimpArgs false
open Go.RowKit Go.Proofs

attribute [local go_sem ↓] Go.wp_at_zero Go.wp_at_succ

end Go.Proofs.YtckmppkdpnhodaaGreatDoor

namespace Go.Proofs.YtckmppkdpnhodaaGreatDoor
set_option linter.unusedVariables false
set_option linter.unusedSimpArgs false
open Go.RowKit Go.Proofs

/-- A cart: how many of each item, which coupons, which notes. -/
structure CartS where
  it : List UInt8 → Option Nat
  cp : List UInt8 → Bool
  no : List UInt8 → Bool

def CartS.empty : CartS := ⟨fun _ => none, fun _ => false, fun _ => false⟩

def itF (g : List UInt8 → Option Nat) : List UInt8 → Option Value := fun s => (g s).map fun m => .int .i64 (m : Int)
def seF (h : List UInt8 → Bool) : List UInt8 → Option Value := fun s => if h s then some (.agg #[]) else none

def putC (S : CartS) (c : Cm) : CartS :=
  match c.k with
  | .closed => ⟨fun s => if s = c.word.data.toList then some (min ((S.it c.word.data.toList).getD 0 + c.count) 999) else S.it s, S.cp, S.no⟩
  | .established => ⟨S.it, fun s => if s = c.word.data.toList then true else S.cp s, S.no⟩
  | .closeWait => ⟨S.it, S.cp, fun s => if s = c.word.data.toList then true else S.no s⟩
  | _ => S

theorem itF_put (g : List UInt8 → Option Nat) (s : List UInt8) (m : Nat) : fput (itF g) s (.int .i64 (m : Int)) = itF (fun x => if x = s then some m else g x) := by
  funext x; simp only [fput, itF]; split <;> rfl

theorem seF_put (h : List UInt8 → Bool) (s : List UInt8) : fput (seF h) s (.agg #[]) = seF (fun x => if x = s then true else h x) := by
  funext x; simp only [fput, seF]; split <;> rfl

theorem itF_getD (g : List UInt8 → Option Nat) (s : List UInt8) : ((itF g s).getD (.int .i64 0)) = .int .i64 (((g s).getD 0 : Nat) : Int) := by
  unfold itF; cases g s <;> rfl

/-- The three maps of a cart. -/
structure CartAt (w : World) (b1 b2 b3 n : Nat) (S : CartS) : Prop where
  m1 : MapIs w b1 n (itF S.it)
  m2 : MapIs w b2 n (seF S.cp)
  m3 : MapIs w b3 n (seF S.no)
  le : ∀ s m, S.it s = some m → m ≤ 999

theorem CartAt.below {w w' : World} {b1 b2 b3 n : Nat} {S : CartS} (h : CartAt w b1 b2 b3 n S) (hb : Below w.heap.size w w') : CartAt w' b1 b2 b3 n S := ⟨h.m1.below hb, h.m2.below hb, h.m3.below hb, h.le⟩

/-- What put leaves: new blocks, and one of the three maps turned. -/
structure PutTo (w : World) (b1 b2 b3 n : Nat) (S : CartS) (w' : World) : Prop where
  cart : CartAt w' b1 b2 b3 n S
  grown : ∃ w1 row, Below w.heap.size w w1 ∧ w1.grownBy w' row ∧ ∀ r, row = some r → r = b1 ∨ r = b2 ∨ r = b3

theorem putTo1 {w w1 w' : World} {b1 b2 b3 n : Nat} {S : CartS} {c : Cm} (h : CartAt w b1 b2 b3 n S) (h12 : b1 ≠ b2) (h13 : b1 ≠ b3) (hb : Below w.heap.size w w1) (hg : w1.grownBy w' (some b1)) (hk : c.k = .closed)
    (hm : MapIs w' b1 (n + 1) (fput (itF S.it) c.word.data.toList (.int .i64 ((min ((S.it c.word.data.toList).getD 0 + c.count) 999 : Nat) : Int)))) : PutTo w b1 b2 b3 (n + 1) (putC S c) w' := by
  have hc := h.below hb
  have k : ∀ b, b ≠ b1 → b < w1.heap.size → w'.heap[b]? = w1.heap[b]? := fun b hb hl => hg.block b hl (fun e => hb (by cases e; rfl))
  refine ⟨⟨?_, ?_, ?_, ?_⟩, w1, some b1, hb, hg, fun r e => by cases e; exact .inl rfl⟩
  · rw [itF_put] at hm; simpa [putC, hk] using hm
  · have := (hc.m2.same (k _ (Ne.symm h12) hc.m2.lt)).mono (Nat.le_succ n); simpa [putC, hk] using this
  · have := (hc.m3.same (k _ (Ne.symm h13) hc.m3.lt)).mono (Nat.le_succ n); simpa [putC, hk] using this
  · intro s m hs
    simp only [putC, hk] at hs
    split at hs
    · cases hs; omega
    · exact h.le s m hs

theorem putTo2 {w w1 w' : World} {b1 b2 b3 n : Nat} {S : CartS} {c : Cm} (h : CartAt w b1 b2 b3 n S) (h12 : b1 ≠ b2) (h23 : b2 ≠ b3) (hb : Below w.heap.size w w1) (hg : w1.grownBy w' (some b2)) (hk : c.k = .established)
    (hm : MapIs w' b2 (n + 1) (fput (seF S.cp) c.word.data.toList (.agg #[]))) : PutTo w b1 b2 b3 (n + 1) (putC S c) w' := by
  have hc := h.below hb
  have k : ∀ b, b ≠ b2 → b < w1.heap.size → w'.heap[b]? = w1.heap[b]? := fun b hb hl => hg.block b hl (fun e => hb (by cases e; rfl))
  refine ⟨⟨?_, ?_, ?_, ?_⟩, w1, some b2, hb, hg, fun r e => by cases e; exact .inr (.inl rfl)⟩
  · have := (hc.m1.same (k _ h12 hc.m1.lt)).mono (Nat.le_succ n); simpa [putC, hk] using this
  · rw [seF_put] at hm; simpa [putC, hk] using hm
  · have := (hc.m3.same (k _ (Ne.symm h23) hc.m3.lt)).mono (Nat.le_succ n); simpa [putC, hk] using this
  · intro s m hs
    simp only [putC, hk] at hs
    exact h.le s m hs

theorem putTo3 {w w1 w' : World} {b1 b2 b3 n : Nat} {S : CartS} {c : Cm} (h : CartAt w b1 b2 b3 n S) (h13 : b1 ≠ b3) (h23 : b2 ≠ b3) (hb : Below w.heap.size w w1) (hg : w1.grownBy w' (some b3)) (hk : c.k = .closeWait)
    (hm : MapIs w' b3 (n + 1) (fput (seF S.no) c.word.data.toList (.agg #[]))) : PutTo w b1 b2 b3 (n + 1) (putC S c) w' := by
  have hc := h.below hb
  have k : ∀ b, b ≠ b3 → b < w1.heap.size → w'.heap[b]? = w1.heap[b]? := fun b hb hl => hg.block b hl (fun e => hb (by cases e; rfl))
  refine ⟨⟨?_, ?_, ?_, ?_⟩, w1, some b3, hb, hg, fun r e => by cases e; exact .inr (.inr rfl)⟩
  · have := (hc.m1.same (k _ h13 hc.m1.lt)).mono (Nat.le_succ n); simpa [putC, hk] using this
  · have := (hc.m2.same (k _ h23 hc.m2.lt)).mono (Nat.le_succ n); simpa [putC, hk] using this
  · rw [seF_put] at hm; simpa [putC, hk] using hm
  · intro s m hs
    simp only [putC, hk] at hs
    exact h.le s m hs

theorem putTo0 {w w1 : World} {b1 b2 b3 n : Nat} {S : CartS} {c : Cm} (h : CartAt w b1 b2 b3 n S) (hb : Below w.heap.size w w1) (hk : putC S c = S) : PutTo w b1 b2 b3 (n + 1) (putC S c) w1 := by
  have hc := h.below hb
  rw [hk]
  exact ⟨⟨hc.m1.mono (Nat.le_succ n), hc.m2.mono (Nat.le_succ n), hc.m3.mono (Nat.le_succ n), h.le⟩, w1, none, hb, World.grownBy.refl _ _, fun r e => by cases e⟩

attribute [local go_sem ↓] Go.wp_at_zero Go.wp_at_succ

set_option maxRecDepth 100000 in
set_option maxHeartbeats 4000000 in
theorem put_any (b1 b2 b3 n : Nat) (h12 : b1 ≠ b2) (h13 : b1 ≠ b3) (h23 : b2 ≠ b3) (hn : n < 4294967297) (S : CartS) (c : Cm) (hc : CmOk c) (w : World) (h : CartAt w b1 b2 b3 n S) :
    Calls Tryz.prog 92 #[.agg #[.map (some b1), .map (some b2), .map (some b3)], .agg #[.int .i64 (c.k.num : Int), .string c.word, .int .i64 (c.count : Int)]] w fun e w' => e = .returned (.tuple #[]) ∧ PutTo w b1 b2 b3 (n + 1) (putC S c) w' := by
  have hw8 : c.word.size ≤ maxLen := by
    have := hc.word
    simp only [wordB, Bool.and_eq_true, decide_eq_true_eq] at this; unfold maxLen; omega
  have hnm : n < maxLen := by unfold maxLen; omega
  have B2 : ∀ o1 o2, Below w.heap.size w ((w.alloc o1).alloc o2) := fun o1 o2 => ((Below.refl _ w).alloc (Nat.le_refl _) _).alloc (by simp) _
  have HH : Hid (CartAt w b1 b2 b3 n S) := h
  cases hk : c.k with
  | listen =>
    have HP : Hid (putC S c = S) := by show _ = _; simp [putC, hk]
    simp only [Kd.num]
    go_enter Tryz.func92, Tryz.ntmps92
    go_wp2
    go_end0
    exact ⟨rfl, putTo0 HH.out (B2 _ _) HP.out⟩
  | finWait =>
    have HP : Hid (putC S c = S) := by show _ = _; simp [putC, hk]
    simp only [Kd.num]
    go_enter Tryz.func92, Tryz.ntmps92
    go_wp2
    go_end0
    exact ⟨rfl, putTo0 HH.out (B2 _ _) HP.out⟩
  | closeWait =>
    obtain ⟨w', L, hm, hg⟩ := (h.below (B2 (.cells #[.map (some b1), .map (some b2), .map (some b3)] 128) (.cells #[.int .i64 4, .string c.word, .int .i64 (c.count : Int)] 116))).m3.put Tryz.underlying126 hnm c.word hw8 (.agg #[])
    have HP : Hid (PutTo w b1 b2 b3 (n + 1) (putC S c) w') := putTo3 h h13 h23 (B2 _ _) hg hk hm
    clear h hm hg B2 HH
    simp only [Kd.num]
    go_enter Tryz.func92, Tryz.ntmps92
    go_wp2
    go_end0
    exact ⟨rfl, HP.out⟩
  | established =>
    obtain ⟨w', L, hm, hg⟩ := (h.below (B2 (.cells #[.map (some b1), .map (some b2), .map (some b3)] 128) (.cells #[.int .i64 2, .string c.word, .int .i64 (c.count : Int)] 116))).m2.put Tryz.underlying126 hnm c.word hw8 (.agg #[])
    have HP : Hid (PutTo w b1 b2 b3 (n + 1) (putC S c) w') := putTo2 h h12 h23 (B2 _ _) hg hk hm
    clear h hm hg B2 HH
    simp only [Kd.num]
    go_enter Tryz.func92, Tryz.ntmps92
    go_wp2
    go_end0
    exact ⟨rfl, HP.out⟩
  | closed =>
    have hle : (S.it c.word.data.toList).getD 0 ≤ 999 := by
      cases hs : S.it c.word.data.toList with
      | none => simp
      | some m => exact h.le _ m hs
    have hct := (hc.add hk).2
    have hb := h.below (B2 (.cells #[.map (some b1), .map (some b2), .map (some b3)] 128) (.cells #[.int .i64 0, .string c.word, .int .i64 (c.count : Int)] 116))
    have L1 := hb.m1.look Tryz.underlying125 (Tryz.zeroValue3 _) c.word hw8
    rw [itF_getD] at L1
    obtain ⟨w', L, hm, hg⟩ := hb.m1.put Tryz.underlying125 hnm c.word hw8 (.int .i64 ((min ((S.it c.word.data.toList).getD 0 + c.count) 999 : Nat) : Int))
    have HP : Hid (PutTo w b1 b2 b3 (n + 1) (putC S c) w') := putTo1 h h12 h13 (B2 _ _) hg hk hm
    clear h hm hg B2 HH hb
    generalize (S.it c.word.data.toList).getD 0 = m at *
    rw [show ((min (m + c.count) 999 : Nat) : Int) = min ((m : Int) + (c.count : Int)) 999 by omega] at L
    simp only [Kd.num]
    go_enter Tryz.func92, Tryz.ntmps92
    go_wp2
    go_end0
    exact ⟨rfl, HP.out⟩

theorem hasItem_any (b1 b2 b3 n : Nat) (S : CartS) (s : ByteArray) (hs : s.size ≤ maxLen) (w : World) (h : CartAt w b1 b2 b3 n S) :
    Calls Tryz.prog 85 #[.agg #[.map (some b1), .map (some b2), .map (some b3)], .string s] w fun e w' => e = .returned (.bool (S.it s.data.toList).isSome) ∧ Below w.heap.size w w' := by
  have B1 : Below w.heap.size w (w.alloc (.cells #[.map (some b1), .map (some b2), .map (some b3)] 128)) := (Below.refl _ w).alloc (Nat.le_refl _) _
  have L1 := (h.below B1).m1.lookOk Tryz.underlying125 (Tryz.zeroValue3 _) s hs
  rw [itF_getD, show (itF S.it s.data.toList).isSome = (S.it s.data.toList).isSome by unfold itF; cases S.it s.data.toList <;> rfl] at L1
  clear h
  generalize (S.it s.data.toList).isSome = p at *
  generalize (S.it s.data.toList).getD 0 = m at *
  go_enter Tryz.func85, Tryz.ntmps85
  go_wp2
  go_ret
  exact ⟨rfl, B1⟩

theorem hasCoupon_any (b1 b2 b3 n : Nat) (S : CartS) (s : ByteArray) (hs : s.size ≤ maxLen) (w : World) (h : CartAt w b1 b2 b3 n S) :
    Calls Tryz.prog 86 #[.agg #[.map (some b1), .map (some b2), .map (some b3)], .string s] w fun e w' => e = .returned (.bool (S.cp s.data.toList)) ∧ Below w.heap.size w w' := by
  have B1 : Below w.heap.size w (w.alloc (.cells #[.map (some b1), .map (some b2), .map (some b3)] 128)) := (Below.refl _ w).alloc (Nat.le_refl _) _
  have L1 := (h.below B1).m2.lookOk Tryz.underlying126 (Tryz.zeroValue94 _) s hs
  rw [show (seF S.cp s.data.toList).getD (.agg #[]) = .agg #[] by unfold seF; split <;> rfl, show (seF S.cp s.data.toList).isSome = S.cp s.data.toList by unfold seF; split <;> simp_all] at L1
  clear h
  generalize S.cp s.data.toList = p at *
  go_enter Tryz.func86, Tryz.ntmps86
  go_wp2
  go_ret
  exact ⟨rfl, B1.alloc (by simp) _⟩

end Go.Proofs.YtckmppkdpnhodaaGreatDoor

namespace Go.Proofs.YtckmppkdpnhodaaGreatDoor
set_option linter.unusedVariables false
set_option linter.unusedSimpArgs false
open Go.RowKit Go.Proofs Go.Shelf

attribute [local go_sem] Oper.semAt_some

end Go.Proofs.YtckmppkdpnhodaaGreatDoor

namespace Go.Proofs.YtckmppkdpnhodaaGreatDoor
set_option linter.unusedVariables false
set_option linter.unusedSimpArgs false
open Go.RowKit Go.Proofs

attribute [local go_sem ↓] Go.wp_at_zero Go.wp_at_succ

theorem Tryz.info_entry : (Tryz.prog.info? 122).map (fun i => (i.zero, i.size, i.bytes)) = some (some (.agg #[.int .i64 0, .int .i64 0, .int .i64 0, .int .i64 0, .int .i64 0, .int .i64 0, .int .i64 0, .int .i64 0, .string ByteArray.empty, .int .i64 0]), 10, 88) := by kernel_rfl

end Go.Proofs.YtckmppkdpnhodaaGreatDoor

namespace Go.Proofs.YtckmppkdpnhodaaGreatDoor
set_option linter.unusedVariables false
set_option linter.unusedSimpArgs false
open Go.RowKit Go.Proofs

attribute [local go_sem ↓] Go.wp_at_zero Go.wp_at_succ

theorem Tryz.info_item : (Tryz.prog.info? 171).map (fun i => (i.zero, i.size, i.bytes)) = some (some (.agg #[.int .i64 0, .int .i64 0, .int .i64 0, .int .i64 0, .int .i64 0, .int .i64 0, .int .i64 0, .int .i64 0, .int .i64 0, .int .i64 0, .string ByteArray.empty, .int .i64 0]), 12, 104) := by kernel_rfl

end Go.Proofs.YtckmppkdpnhodaaGreatDoor
