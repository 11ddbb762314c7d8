/-
  Contract of (Reach).Covers. Contract of (*Log).Learn.
-/
import Derived.Test.YtckmppkdpnhodaaGreatDoorT13
import Derived.Test.YtckmppkdpnhodaaGreatDoorT15
import Derived.Deep.QuietTactic
import Derived.BigQuiet
namespace Go.Proofs.YtckmppkdpnhodaaGreatDoor
set_option linter.unusedVariables false
set_option linter.unusedSimpArgs false
open Go.RowKit Go.Proofs

attribute [local go_sem ↓] Go.wp_at_zero Go.wp_at_succ

set_option maxRecDepth 100000 in
set_option maxHeartbeats 4000000 in
theorem coversG (a b : Rc) (w : World) :
    Calls Tryz.prog 111 #[.agg #[.int .i64 (a.a : Int), .int .i64 (a.b : Int), .int .i64 (a.c : Int), .int .i64 (a.d : Int), .int .i64 (a.e : Int)], .agg #[.int .i64 (b.a : Int), .int .i64 (b.b : Int), .int .i64 (b.c : Int), .int .i64 (b.d : Int), .int .i64 (b.e : Int)]] w fun e w' => e = .returned (.bool (a.covers b)) ∧ Below w.heap.size w w' := by
  have i0 : ∀ w, (Instr.index 102 (.agg #[.int .i64 (b.a : Int), .int .i64 (b.b : Int), .int .i64 (b.c : Int), .int .i64 (b.d : Int), .int .i64 (b.e : Int)]) (.int .i64 0)).run Tryz.prog w = .ok (.int .i64 (b.a : Int)) w := fun _ => by kernel_rfl
  have i1 : ∀ w, (Instr.index 102 (.agg #[.int .i64 (b.a : Int), .int .i64 (b.b : Int), .int .i64 (b.c : Int), .int .i64 (b.d : Int), .int .i64 (b.e : Int)]) (.int .i64 1)).run Tryz.prog w = .ok (.int .i64 (b.b : Int)) w := fun _ => by kernel_rfl
  have i2 : ∀ w, (Instr.index 102 (.agg #[.int .i64 (b.a : Int), .int .i64 (b.b : Int), .int .i64 (b.c : Int), .int .i64 (b.d : Int), .int .i64 (b.e : Int)]) (.int .i64 2)).run Tryz.prog w = .ok (.int .i64 (b.c : Int)) w := fun _ => by kernel_rfl
  have i3 : ∀ w, (Instr.index 102 (.agg #[.int .i64 (b.a : Int), .int .i64 (b.b : Int), .int .i64 (b.c : Int), .int .i64 (b.d : Int), .int .i64 (b.e : Int)]) (.int .i64 3)).run Tryz.prog w = .ok (.int .i64 (b.d : Int)) w := fun _ => by kernel_rfl
  have i4 : ∀ w, (Instr.index 102 (.agg #[.int .i64 (b.a : Int), .int .i64 (b.b : Int), .int .i64 (b.c : Int), .int .i64 (b.d : Int), .int .i64 (b.e : Int)]) (.int .i64 4)).run Tryz.prog w = .ok (.int .i64 (b.e : Int)) w := fun _ => by kernel_rfl
  have HF : Hid (∀ j, j < 5 → ¬ b.get j ≤ a.get j → a.covers b = false) := fun j _ hn => by
    rw [Bool.eq_false_iff]
    intro h
    exact hn ((Rc.covers_iff a b).1 h j)
  have HT : Hid ((∀ j, j < 5 → b.get j ≤ a.get j) → a.covers b = true) := fun h => (Rc.covers_iff a b).2 fun j => by
    by_cases hj : j < 5
    · exact h j hj
    · simp [Rc.get, show j ≠ 0 by omega, show j ≠ 1 by omega, show j ≠ 2 by omega, show j ≠ 3 by omega, show j ≠ 4 by omega]
  have HH : Hid (∀ (j s : Nat) W, j < 5 → Calls Tryz.prog 130 #[.agg #[.int .i64 (a.a : Int), .int .i64 (a.b : Int), .int .i64 (a.c : Int), .int .i64 (a.d : Int), .int .i64 (a.e : Int)], .int .i64 (j : Int), .int .i64 (s : Int)] W fun e w' => e = .returned (.bool (decide (s ≤ a.get j))) ∧ Below W.heap.size W w') := fun j s W hj => reachHasG a j s hj W
  have HA : Hid (∀ o, (w.alloc (.cells #[.int .i64 (a.a : Int), .int .i64 (a.b : Int), .int .i64 (a.c : Int), .int .i64 (a.d : Int), .int .i64 (a.e : Int)] 104)).heap[w.heap.size]? = some (.cells #[.int .i64 (a.a : Int), .int .i64 (a.b : Int), .int .i64 (a.c : Int), .int .i64 (a.d : Int), .int .i64 (a.e : Int)] 104 (0, 0)) ∧ Below w.heap.size w ((w.alloc (.cells #[.int .i64 (a.a : Int), .int .i64 (a.b : Int), .int .i64 (a.c : Int), .int .i64 (a.d : Int), .int .i64 (a.e : Int)] 104)).alloc o) ∧ ((w.alloc (.cells #[.int .i64 (a.a : Int), .int .i64 (a.b : Int), .int .i64 (a.c : Int), .int .i64 (a.d : Int), .int .i64 (a.e : Int)] 104)).alloc o).heap[w.heap.size]? = some (.cells #[.int .i64 (a.a : Int), .int .i64 (a.b : Int), .int .i64 (a.c : Int), .int .i64 (a.d : Int), .int .i64 (a.e : Int)] 104 (0, 0))) := fun o =>
    ⟨heap_alloc_new w _, ((Below.refl _ w).alloc (Nat.le_refl _) _).alloc (by simp) _, (Below.heap_alloc _ _ _ (by simp)).trans (heap_alloc_new w _)⟩
  go_enter Tryz.func111, Tryz.ntmps111
  go_wp2_with fail
  go_loopw [9] (fun v wr => ∃ j : Nat, j ≤ 5 ∧ v = .int .i64 j ∧ Hid (∀ i, i < j → b.get i ≤ a.get i) ∧ Hid (wr.heap[w.heap.size]? = some (.cells #[.int .i64 (a.a : Int), .int .i64 (a.b : Int), .int .i64 (a.c : Int), .int .i64 (a.d : Int), .int .i64 (a.e : Int)] 104 (0, 0))) ∧ Hid (Below w.heap.size w wr)) (fun v _ => 5 - (intOf v).toNat)
  case atStart => exact ⟨0, by omega, rfl, fun i hi => by omega, (HA.out _).2.2, (HA.out _).2.1⟩
  case round =>
    obtain ⟨j, hj, rfl, hI, hB, hW⟩ := hrel
    have hl := (Array.getElem?_eq_some_iff.1 hB.out).1
    have c0 : wr.cell? ⟨w.heap.size, 0, none⟩ = some (.int .i64 (a.a : Int)) := by rw [cell_of_heap hB.out]; rfl
    have c1 : wr.cell? ⟨w.heap.size, 1, none⟩ = some (.int .i64 (a.b : Int)) := by rw [cell_of_heap hB.out]; rfl
    have c2 : wr.cell? ⟨w.heap.size, 2, none⟩ = some (.int .i64 (a.c : Int)) := by rw [cell_of_heap hB.out]; rfl
    have c3 : wr.cell? ⟨w.heap.size, 3, none⟩ = some (.int .i64 (a.d : Int)) := by rw [cell_of_heap hB.out]; rfl
    have c4 : wr.cell? ⟨w.heap.size, 4, none⟩ = some (.int .i64 (a.e : Int)) := by rw [cell_of_heap hB.out]; rfl
    rcases (show j = 0 ∨ j = 1 ∨ j = 2 ∨ j = 3 ∨ j = 4 ∨ j = 5 by omega) with rfl | rfl | rfl | rfl | rfl | rfl
    · have HHk := HH.out 0 b.a wr (by omega)
      have hgk : b.get 0 = b.a := rfl
      by_cases hc : b.a ≤ a.get 0
      · rw [decide_eq_true hc] at HHk
        have HK : Hid _ := HHk
        have HN : Hid (∀ i, i < 1 → b.get i ≤ a.get i) := fun i hi => by
          by_cases e : i = 0
          · subst e; exact hc
          · exact hI.out i (by omega)
        clear HHk hc hgk
        go_wp2_with (go_at_call 130; refine Calls.mono HK.out ?_; rintro e w1 ⟨rfl, hb1⟩)
        go_roundw
        case rel => exact ⟨1, by omega, rfl, HN, (hb1.block _ hl).trans hB.out, hW.out.trans (hb1.mono (by omega))⟩
        case measure => simp [intOf]
      · rw [decide_eq_false hc] at HHk
        have HK : Hid _ := HHk
        have HN : Hid (a.covers b = false) := HF.out 0 (by omega) hc
        clear HHk hc hgk
        go_wp2_with (go_at_call 130; refine Calls.mono HK.out ?_; rintro e w1 ⟨rfl, hb1⟩)
        go_ret
        exact ⟨ret_bool HN.out.symm, hW.out.trans (hb1.mono (by omega))⟩
    · have HHk := HH.out 1 b.b wr (by omega)
      have hgk : b.get 1 = b.b := rfl
      by_cases hc : b.b ≤ a.get 1
      · rw [decide_eq_true hc] at HHk
        have HK : Hid _ := HHk
        have HN : Hid (∀ i, i < 2 → b.get i ≤ a.get i) := fun i hi => by
          by_cases e : i = 1
          · subst e; exact hc
          · exact hI.out i (by omega)
        clear HHk hc hgk
        go_wp2_with (go_at_call 130; refine Calls.mono HK.out ?_; rintro e w1 ⟨rfl, hb1⟩)
        go_roundw
        case rel => exact ⟨2, by omega, rfl, HN, (hb1.block _ hl).trans hB.out, hW.out.trans (hb1.mono (by omega))⟩
        case measure => simp [intOf]
      · rw [decide_eq_false hc] at HHk
        have HK : Hid _ := HHk
        have HN : Hid (a.covers b = false) := HF.out 1 (by omega) hc
        clear HHk hc hgk
        go_wp2_with (go_at_call 130; refine Calls.mono HK.out ?_; rintro e w1 ⟨rfl, hb1⟩)
        go_ret
        exact ⟨ret_bool HN.out.symm, hW.out.trans (hb1.mono (by omega))⟩
    · have HHk := HH.out 2 b.c wr (by omega)
      have hgk : b.get 2 = b.c := rfl
      by_cases hc : b.c ≤ a.get 2
      · rw [decide_eq_true hc] at HHk
        have HK : Hid _ := HHk
        have HN : Hid (∀ i, i < 3 → b.get i ≤ a.get i) := fun i hi => by
          by_cases e : i = 2
          · subst e; exact hc
          · exact hI.out i (by omega)
        clear HHk hc hgk
        go_wp2_with (go_at_call 130; refine Calls.mono HK.out ?_; rintro e w1 ⟨rfl, hb1⟩)
        go_roundw
        case rel => exact ⟨3, by omega, rfl, HN, (hb1.block _ hl).trans hB.out, hW.out.trans (hb1.mono (by omega))⟩
        case measure => simp [intOf]
      · rw [decide_eq_false hc] at HHk
        have HK : Hid _ := HHk
        have HN : Hid (a.covers b = false) := HF.out 2 (by omega) hc
        clear HHk hc hgk
        go_wp2_with (go_at_call 130; refine Calls.mono HK.out ?_; rintro e w1 ⟨rfl, hb1⟩)
        go_ret
        exact ⟨ret_bool HN.out.symm, hW.out.trans (hb1.mono (by omega))⟩
    · have HHk := HH.out 3 b.d wr (by omega)
      have hgk : b.get 3 = b.d := rfl
      by_cases hc : b.d ≤ a.get 3
      · rw [decide_eq_true hc] at HHk
        have HK : Hid _ := HHk
        have HN : Hid (∀ i, i < 4 → b.get i ≤ a.get i) := fun i hi => by
          by_cases e : i = 3
          · subst e; exact hc
          · exact hI.out i (by omega)
        clear HHk hc hgk
        go_wp2_with (go_at_call 130; refine Calls.mono HK.out ?_; rintro e w1 ⟨rfl, hb1⟩)
        go_roundw
        case rel => exact ⟨4, by omega, rfl, HN, (hb1.block _ hl).trans hB.out, hW.out.trans (hb1.mono (by omega))⟩
        case measure => simp [intOf]
      · rw [decide_eq_false hc] at HHk
        have HK : Hid _ := HHk
        have HN : Hid (a.covers b = false) := HF.out 3 (by omega) hc
        clear HHk hc hgk
        go_wp2_with (go_at_call 130; refine Calls.mono HK.out ?_; rintro e w1 ⟨rfl, hb1⟩)
        go_ret
        exact ⟨ret_bool HN.out.symm, hW.out.trans (hb1.mono (by omega))⟩
    · have HHk := HH.out 4 b.e wr (by omega)
      have hgk : b.get 4 = b.e := rfl
      by_cases hc : b.e ≤ a.get 4
      · rw [decide_eq_true hc] at HHk
        have HK : Hid _ := HHk
        have HN : Hid (∀ i, i < 5 → b.get i ≤ a.get i) := fun i hi => by
          by_cases e : i = 4
          · subst e; exact hc
          · exact hI.out i (by omega)
        clear HHk hc hgk
        go_wp2_with (go_at_call 130; refine Calls.mono HK.out ?_; rintro e w1 ⟨rfl, hb1⟩)
        go_roundw
        case rel => exact ⟨5, by omega, rfl, HN, (hb1.block _ hl).trans hB.out, hW.out.trans (hb1.mono (by omega))⟩
        case measure => simp [intOf]
      · rw [decide_eq_false hc] at HHk
        have HK : Hid _ := HHk
        have HN : Hid (a.covers b = false) := HF.out 4 (by omega) hc
        clear HHk hc hgk
        go_wp2_with (go_at_call 130; refine Calls.mono HK.out ?_; rintro e w1 ⟨rfl, hb1⟩)
        go_ret
        exact ⟨ret_bool HN.out.symm, hW.out.trans (hb1.mono (by omega))⟩
    · go_wp2
      go_ret
      exact ⟨ret_bool (HT.out hI.out).symm, hW.out⟩

end Go.Proofs.YtckmppkdpnhodaaGreatDoor

namespace Go.Proofs.YtckmppkdpnhodaaGreatDoor
set_option linter.unusedVariables false
set_option linter.unusedSimpArgs false
open Go.RowKit Go.Proofs

attribute [local go_sem ↓] Go.wp_at_zero Go.wp_at_succ

set_option maxRecDepth 100000 in
set_option maxHeartbeats 4000000 in
/-- One that is not the next of its replica is left out. -/
theorem learn_seq (rb : Nat) (x : En) (rv : Nat) (C : Array Value) (T : TypeId) (w : World) (hrb : w.heap[rb]? = some (.cells C T (0, 0))) (h5 : C[5 + x.org]? = some (.int .i64 (rv : Int))) (hv : rv < 1152921504606846976) (hne : x.seq ≠ rv + 1) :
    Calls Tryz.prog 62 #[.pointer (some ⟨rb, 4, none⟩), x.val] w fun e w' => e = .returned (.tuple #[]) ∧ Below w.heap.size w w' := by
  have hrl : rb < w.heap.size := (Array.getElem?_eq_some_iff.1 hrb).1
  have hog := x.ho
  have hq : ((x.seq : Int) == (rv : Int) + 1) = false := beq_eq_false_iff_ne.2 (by omega)
  have hwr : IntKind.i64.wrap ((rv : Int) + 1) = (rv : Int) + 1 := by rw [IntKind.wrap_i64]; omega
  have c5 : w.cell? ⟨rb, 5 + x.org, none⟩ = some (.int .i64 (rv : Int)) := by rw [cell_of_heap hrb]; exact h5
  have hmi0 : (0 : Int) ≤ (x.org : Int) := by omega
  have hmi5 : (x.org : Int) < 5 := by omega
  have hmi6 : (x.org : Int) ≤ 5 := by omega
  clear hrb h5
  simp only [En.val]
  go_enter Tryz.func62, Tryz.ntmps62
  go_upto_region 1 with fail
  obtain ⟨wa, hwa⟩ : ∃ wa, w.alloc (.cells #[.int .i64 (x.org : Int), .int .i64 (x.seq : Int), .int .i64 (x.ah.a : Int), .int .i64 (x.ah.b : Int), .int .i64 (x.ah.c : Int), .int .i64 (x.ah.d : Int), .int .i64 (x.ah.e : Int), .int .i64 (x.c.k.num : Int), .string x.c.word, .int .i64 (x.c.count : Int)] 122) = wa := ⟨_, rfl⟩
  have hba : Below w.heap.size w wa := by rw [← hwa]; exact (Below.refl _ w).alloc (Nat.le_refl _) _
  have hea := heap_alloc_new w (.cells #[.int .i64 (x.org : Int), .int .i64 (x.seq : Int), .int .i64 (x.ah.a : Int), .int .i64 (x.ah.b : Int), .int .i64 (x.ah.c : Int), .int .i64 (x.ah.d : Int), .int .i64 (x.ah.e : Int), .int .i64 (x.c.k.num : Int), .string x.c.word, .int .i64 (x.c.count : Int)] 122)
  rw [hwa] at hea
  have a0 : wa.cell? ⟨w.heap.size, 0, none⟩ = some (.int .i64 (x.org : Int)) := by rw [cell_of_heap hea]; rfl
  have a1 : wa.cell? ⟨w.heap.size, 1, none⟩ = some (.int .i64 (x.seq : Int)) := by rw [cell_of_heap hea]; rfl
  have a5 : wa.cell? ⟨rb, 5 + x.org, none⟩ = some (.int .i64 (rv : Int)) := cell_below hba c5
  rw [hwa]
  have HB : Hid (Below w.heap.size w wa) := hba
  clear hwa hea hba c5
  go_quiet (fail)
  go_wp2
  go_end0
  exact ⟨rfl, below_drewN HB.out _⟩

set_option maxRecDepth 100000 in
set_option maxHeartbeats 8000000 in
/-- The next of its replica: put where all that is ahead of it is known. -/
theorem learn_next (rb : Nat) (log : List En) (h8 : log.length ≤ 4294967296) (x : En) (r : Rc) (ev : Value) (C : Array Value) (T : TypeId) (w : World) (hrb : w.heap[rb]? = some (.cells C T (0, 0))) (h4 : C[4]? = some ev) (hr : ∀ j, j < 5 → C[5 + j]? = some (.int .i64 (r.get j : Int))) (hv : ∀ j, r.get j < 1152921504606846976) (hne : x.seq = r.get x.org + 1)
    (hrow : w.ownsRow 0 122 10 ev log.length (enRow log)) (hnb : ev.ownBlock ≠ some rb) :
    Calls Tryz.prog 62 #[.pointer (some ⟨rb, 4, none⟩), x.val] w fun e w' => e = .returned (.tuple #[]) ∧
      ((r.covers x.ah = false ∧ Below w.heap.size w w') ∨ (r.covers x.ah = true ∧ ∃ g cap, w'.ownsRow 0 122 10 (.slice (some ⟨g, 0, none⟩) (log.length + 1) cap) (log.length + 1) (enRow (log ++ [x])) ∧ (ev.ownBlock = some g ∨ w.heap.size ≤ g) ∧ g ≠ rb ∧
        w'.heap[rb]? = some (.cells ((C.setIfInBounds 4 (.slice (some ⟨g, 0, none⟩) (log.length + 1) cap)).setIfInBounds (5 + x.org) (.int .i64 (x.seq : Int))) T (0, 0)) ∧ Upd [some rb, ev.ownBlock] w w')) := by
  have hrl : rb < w.heap.size := (Array.getElem?_eq_some_iff.1 hrb).1
  have hog := x.ho
  have hvo := hv x.org
  have hq : ((x.seq : Int) == (r.get x.org : Int) + 1) = true := beq_iff_eq.2 (by omega)
  have hwr : IntKind.i64.wrap ((r.get x.org : Int) + 1) = (r.get x.org : Int) + 1 := by rw [IntKind.wrap_i64]; omega
  have c5 : w.cell? ⟨rb, 5 + x.org, none⟩ = some (.int .i64 (r.get x.org : Int)) := by rw [cell_of_heap hrb]; exact hr _ hog
  have d0 : w.cell? ⟨rb, 5, none⟩ = some (.int .i64 (r.a : Int)) := by rw [cell_of_heap hrb]; exact hr 0 (by omega)
  have d1 : w.cell? ⟨rb, 6, none⟩ = some (.int .i64 (r.b : Int)) := by rw [cell_of_heap hrb]; exact hr 1 (by omega)
  have d2 : w.cell? ⟨rb, 7, none⟩ = some (.int .i64 (r.c : Int)) := by rw [cell_of_heap hrb]; exact hr 2 (by omega)
  have d3 : w.cell? ⟨rb, 8, none⟩ = some (.int .i64 (r.d : Int)) := by rw [cell_of_heap hrb]; exact hr 3 (by omega)
  have d4 : w.cell? ⟨rb, 9, none⟩ = some (.int .i64 (r.e : Int)) := by rw [cell_of_heap hrb]; exact hr 4 (by omega)
  have hmi0 : (0 : Int) ≤ (x.org : Int) := by omega
  have hmi5 : (x.org : Int) < 5 := by omega
  have hmi6 : (x.org : Int) ≤ 5 := by omega
  have HP : Hid (∀ W, Below w.heap.size w W → Calls Tryz.prog 88 #[.pointer (some ⟨rb, 4, none⟩), .agg #[.int .i64 (x.org : Int), .int .i64 (x.seq : Int), .int .i64 (x.ah.a : Int), .int .i64 (x.ah.b : Int), .int .i64 (x.ah.c : Int), .int .i64 (x.ah.d : Int), .int .i64 (x.ah.e : Int), .int .i64 (x.c.k.num : Int), .string x.c.word, .int .i64 (x.c.count : Int)]] W fun e w' =>
      e = .returned (.tuple #[]) ∧ ∃ g cap, w'.ownsRow 0 122 10 (.slice (some ⟨g, 0, none⟩) (log.length + 1) cap) (log.length + 1) (enRow (log ++ [x])) ∧ (ev.ownBlock = some g ∨ w.heap.size ≤ g) ∧ g ≠ rb ∧
        w'.heap[rb]? = some (.cells ((C.setIfInBounds 4 (.slice (some ⟨g, 0, none⟩) (log.length + 1) cap)).setIfInBounds (5 + x.org) (.int .i64 (x.seq : Int))) T (0, 0)) ∧ Upd [some rb, ev.ownBlock] w w') := fun W hW => by
    refine (logputG rb log h8 x ev C T W ((hW.block rb hrl).trans hrb) h4 (r.get x.org) (hr _ hog) ((Upd.of_below (S := []) hW).owns hrow (by simp)) hnb).mono ?_
    rintro e w' ⟨he, g, cap, o1, o2, o3, o4, o5⟩
    exact ⟨he, g, cap, o1, o2.imp id (fun h => Nat.le_trans hW.size h), o3, o4, (Upd.of_below hW).trans o5 (fun i hi => .inl hi)⟩
  have HC : Hid (∀ W, Calls Tryz.prog 111 #[.agg #[.int .i64 (r.a : Int), .int .i64 (r.b : Int), .int .i64 (r.c : Int), .int .i64 (r.d : Int), .int .i64 (r.e : Int)], .agg #[.int .i64 (x.ah.a : Int), .int .i64 (x.ah.b : Int), .int .i64 (x.ah.c : Int), .int .i64 (x.ah.d : Int), .int .i64 (x.ah.e : Int)]] W fun e w' => e = .returned (.bool (r.covers x.ah)) ∧ Below W.heap.size W w') := fun W => coversG r x.ah W
  obtain ⟨cv, hcv⟩ : ∃ cv, r.covers x.ah = cv := ⟨_, rfl⟩
  rw [hcv] at HC
  have HCV : Hid (r.covers x.ah = cv) := hcv
  clear hcv
  clear hrb h4 hr hv hrow hne hvo
  simp only [En.val]
  go_enter Tryz.func62, Tryz.ntmps62
  go_upto_region 1 with fail
  obtain ⟨wa, hwa⟩ : ∃ wa, w.alloc (.cells #[.int .i64 (x.org : Int), .int .i64 (x.seq : Int), .int .i64 (x.ah.a : Int), .int .i64 (x.ah.b : Int), .int .i64 (x.ah.c : Int), .int .i64 (x.ah.d : Int), .int .i64 (x.ah.e : Int), .int .i64 (x.c.k.num : Int), .string x.c.word, .int .i64 (x.c.count : Int)] 122) = wa := ⟨_, rfl⟩
  have hba : Below w.heap.size w wa := by rw [← hwa]; exact (Below.refl _ w).alloc (Nat.le_refl _) _
  have hea := heap_alloc_new w (.cells #[.int .i64 (x.org : Int), .int .i64 (x.seq : Int), .int .i64 (x.ah.a : Int), .int .i64 (x.ah.b : Int), .int .i64 (x.ah.c : Int), .int .i64 (x.ah.d : Int), .int .i64 (x.ah.e : Int), .int .i64 (x.c.k.num : Int), .string x.c.word, .int .i64 (x.c.count : Int)] 122)
  rw [hwa] at hea
  have hsa : w.heap.size < wa.heap.size := (Array.getElem?_eq_some_iff.1 hea).1
  have HEA : Hid (∀ W, Below wa.heap.size wa W → W.heap[w.heap.size]? = some (.cells #[.int .i64 (x.org : Int), .int .i64 (x.seq : Int), .int .i64 (x.ah.a : Int), .int .i64 (x.ah.b : Int), .int .i64 (x.ah.c : Int), .int .i64 (x.ah.d : Int), .int .i64 (x.ah.e : Int), .int .i64 (x.c.k.num : Int), .string x.c.word, .int .i64 (x.c.count : Int)] 122 (0, 0))) := fun W hW => (hW.block _ hsa).trans hea
  have a0 : wa.cell? ⟨w.heap.size, 0, none⟩ = some (.int .i64 (x.org : Int)) := by rw [cell_of_heap hea]; rfl
  have a1 : wa.cell? ⟨w.heap.size, 1, none⟩ = some (.int .i64 (x.seq : Int)) := by rw [cell_of_heap hea]; rfl
  have a2 : wa.cell? ⟨w.heap.size, 2, none⟩ = some (.int .i64 (x.ah.a : Int)) := by rw [cell_of_heap hea]; rfl
  have a3 : wa.cell? ⟨w.heap.size, 3, none⟩ = some (.int .i64 (x.ah.b : Int)) := by rw [cell_of_heap hea]; rfl
  have a4 : wa.cell? ⟨w.heap.size, 4, none⟩ = some (.int .i64 (x.ah.c : Int)) := by rw [cell_of_heap hea]; rfl
  have a5 : wa.cell? ⟨w.heap.size, 5, none⟩ = some (.int .i64 (x.ah.d : Int)) := by rw [cell_of_heap hea]; rfl
  have a6 : wa.cell? ⟨w.heap.size, 6, none⟩ = some (.int .i64 (x.ah.e : Int)) := by rw [cell_of_heap hea]; rfl
  have e5 := cell_below hba c5
  have f0 := cell_below hba d0
  have f1 := cell_below hba d1
  have f2 := cell_below hba d2
  have f3 := cell_below hba d3
  have f4 := cell_below hba d4
  rw [hwa]
  have HB : Hid (Below w.heap.size w wa) := hba
  clear hwa hea hba c5 d0 d1 d2 d3 d4
  generalize hb0 : w.heap.size = b0 at *
  go_region_held3 (fun w' => w'.cell? ⟨b0, 0, none⟩ = some (.int .i64 (x.org : Int)) ∧ w'.cell? ⟨b0, 1, none⟩ = some (.int .i64 (x.seq : Int)) ∧ w'.cell? ⟨b0, 2, none⟩ = some (.int .i64 (x.ah.a : Int)) ∧ w'.cell? ⟨b0, 3, none⟩ = some (.int .i64 (x.ah.b : Int)) ∧ w'.cell? ⟨b0, 4, none⟩ = some (.int .i64 (x.ah.c : Int)) ∧ w'.cell? ⟨b0, 5, none⟩ = some (.int .i64 (x.ah.d : Int)) ∧ w'.cell? ⟨b0, 6, none⟩ = some (.int .i64 (x.ah.e : Int)) ∧
      w'.cell? ⟨rb, 5 + x.org, none⟩ = some (.int .i64 (r.get x.org : Int)) ∧ w'.cell? ⟨rb, 5, none⟩ = some (.int .i64 (r.a : Int)) ∧ w'.cell? ⟨rb, 6, none⟩ = some (.int .i64 (r.b : Int)) ∧ w'.cell? ⟨rb, 7, none⟩ = some (.int .i64 (r.c : Int)) ∧ w'.cell? ⟨rb, 8, none⟩ = some (.int .i64 (r.d : Int)) ∧ w'.cell? ⟨rb, 9, none⟩ = some (.int .i64 (r.e : Int)))
    (first
      | exact ⟨a0, a1, a2, a3, a4, a5, a6, e5, f0, f1, f2, f3, f4⟩
      | exact ⟨cell_below t2 a0, cell_below t2 a1, cell_below t2 a2, cell_below t2 a3, cell_below t2 a4, cell_below t2 a5, cell_below t2 a6, cell_below t2 e5, cell_below t2 f0, cell_below t2 f1, cell_below t2 f2, cell_below t2 f3, cell_below t2 f4⟩
      | go_keep)
    (first
      | (go_at_call 111; refine (HC.out _).mono ?_; rintro e w2 ⟨rfl, u2⟩; have t2 : Below wa.heap.size wa w2 := ((Below.refl _ wa).drew).trans u2))
  have hw2 : Below w.heap.size w w2 := by
    rw [hb0]
    exact HB.out.trans (t2.mono (by have := HB.out.size; omega))
  have h2 := HEA.out w2 t2
  have p0 : w2.cell? ⟨b0, 0, none⟩ = some (.int .i64 (x.org : Int)) := by rw [cell_of_heap h2]; rfl
  have p1 : w2.cell? ⟨b0, 1, none⟩ = some (.int .i64 (x.seq : Int)) := by rw [cell_of_heap h2]; rfl
  have p2 : w2.cell? ⟨b0, 2, none⟩ = some (.int .i64 (x.ah.a : Int)) := by rw [cell_of_heap h2]; rfl
  have p3 : w2.cell? ⟨b0, 3, none⟩ = some (.int .i64 (x.ah.b : Int)) := by rw [cell_of_heap h2]; rfl
  have p4 : w2.cell? ⟨b0, 4, none⟩ = some (.int .i64 (x.ah.c : Int)) := by rw [cell_of_heap h2]; rfl
  have p5 : w2.cell? ⟨b0, 5, none⟩ = some (.int .i64 (x.ah.d : Int)) := by rw [cell_of_heap h2]; rfl
  have p6 : w2.cell? ⟨b0, 6, none⟩ = some (.int .i64 (x.ah.e : Int)) := by rw [cell_of_heap h2]; rfl
  have p7 : w2.cell? ⟨b0, 7, none⟩ = some (.int .i64 (x.c.k.num : Int)) := by rw [cell_of_heap h2]; rfl
  have p8 : w2.cell? ⟨b0, 8, none⟩ = some (.string x.c.word) := by rw [cell_of_heap h2]; rfl
  have p9 : w2.cell? ⟨b0, 9, none⟩ = some (.int .i64 (x.c.count : Int)) := by rw [cell_of_heap h2]; rfl
  have HW : Hid (Below w.heap.size w w2) := hw2
  have HP2 := HP.out w2 (by rw [← hb0]; exact hw2)
  have HPP : Hid _ := HP2
  clear h2 a0 a1 a2 a3 a4 a5 a6 e5 f0 f1 f2 f3 f4 HB HEA HC hw2 HP HP2 t2 u2
  cases cv with
  | false =>
    go_wp2
    go_end0
    exact ⟨rfl, .inl ⟨HCV.out, (by have := HW.out; rw [hb0] at this; exact this)⟩⟩
  | true =>
    go_wp2_with (go_at_call 88; refine Calls.mono HPP.out ?_; rintro e w3 ⟨rfl, g, cap, o1, o2, o3, o4, o5⟩)
    go_end0
    exact ⟨rfl, .inr ⟨HCV.out, g, cap, o1, (by rw [hb0]; exact o2), o3, o4, o5⟩⟩

end Go.Proofs.YtckmppkdpnhodaaGreatDoor
