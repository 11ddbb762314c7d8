/-
  The reader over whatever bytes: head, entry.
-/
import Derived.Test.YtckmppkdpnhodaaGreatDoorT35
namespace Go.Proofs.YtckmppkdpnhodaaGreatDoor
set_option linter.unusedVariables false
set_option linter.unusedSimpArgs false
open Go.RowKit Go.Proofs

attribute [local go_sem ↓] Go.wp_at_zero Go.wp_at_succ

theorem RbTo.below {w w' w'' : World} {q z : Nat} {rest : List UInt8} {bad : Bool} (h : RbTo w q z rest bad w') (hb : Below w'.heap.size w' w'') : RbTo w q z rest bad w'' := by
  obtain ⟨r, b, a1, a2, a3, a4, a5⟩ := h
  exact ⟨r, b, a1.below hb, a2.below hb, a3, a4, a5⟩

/-- One call more. -/
theorem RbTo.then {w w' : World} {q z : Nat} {rest : List UInt8} {bad : Bool} {f : FuncId} {args : Array Value} {P : Ending → World → Prop} (h : RbTo w q z rest bad w') (hc : ∀ r b, Rb w' q z r b → Calls Tryz.prog f args w' fun e v => P e v ∧ RbTo w' q z r b v) : Calls Tryz.prog f args w' fun e v => P e v ∧ RbTo w q z rest bad v := by
  obtain ⟨r, b, a1, a2, a3, a4, a5⟩ := h
  refine (hc r b a1).mono ?_
  rintro e v ⟨h1, h2⟩
  exact ⟨h1, RbTo.trans a2 a3 a4 h2⟩

theorem RbTo.upd1 {w w' : World} {q z : Nat} {rest : List UInt8} {bad : Bool} (h : RbTo w q z rest bad w') : Upd [some q] w w' := by
  obtain ⟨r, b, a1, a2, a3, a4, a5⟩ := h
  exact a2

set_option maxRecDepth 100000 in
set_option maxHeartbeats 4000000 in
theorem rheadX (w : World) (q z : Nat) (hz : z < w.heap.size) (rest : List UInt8) (bad : Bool) (hr : Rb w q z rest bad) :
    Calls Tryz.prog 106 #[.pointer (some ⟨q, 0, none⟩)] w fun e w' => (∃ a b h : Nat, a < 5 ∧ b < 5 ∧ h < 72057594037927936 ∧ e = .returned (.agg #[.int .i64 (a : Int), .int .i64 (b : Int), .int .i64 (h : Int), .slice none 0 0])) ∧ RbTo w q z rest bad w' := by
  have hql := hr.lt
  go_enter Tryz.func106, Tryz.ntmps106
  go_upto_region 1 with fail
  obtain ⟨wa, hwa⟩ : ∃ wa, w.alloc (.cells #[.int .i64 0, .int .i64 0, .int .i64 0, .slice none 0 0] 140) = wa := ⟨_, rfl⟩
  have HBA : Hid (Below w.heap.size w wa) := by show Below _ _ _; rw [← hwa]; exact (Below.refl _ w).alloc (Nat.le_refl _) _
  have hsa : wa.heap.size = w.heap.size + 1 := by rw [← hwa]; simp
  have HEA : Hid (wa.heap[w.heap.size]? = some (.cells #[.int .i64 0, .int .i64 0, .int .i64 0, .slice none 0 0] 140 (0, 0))) := by show _ = _; rw [← hwa]; exact heap_alloc_new w _
  rw [hwa]
  clear hwa
  have HA : Hid (Rb wa q z rest bad) := hr.below HBA.out
  have H1 : Hid (Calls Tryz.prog 145 #[.pointer (some ⟨q, 0, none⟩)] wa fun e w' => ∃ a : Nat, a < 5 ∧ e = .returned (.int .i64 (a : Int)) ∧ Hid (RbTo wa q z rest bad w')) := replicaX q z rest bad wa HA.out
  have H2 : Hid (∀ W, RbTo wa q z rest bad W → Calls Tryz.prog 145 #[.pointer (some ⟨q, 0, none⟩)] W fun e w' => ∃ a : Nat, a < 5 ∧ e = .returned (.int .i64 (a : Int)) ∧ Hid (RbTo wa q z rest bad w')) := fun W hW => by
    refine (hW.then (P := fun e _ => ∃ a : Nat, a < 5 ∧ e = .returned (.int .i64 (a : Int))) fun r b hb => (replicaX q z r b W hb).mono fun e v ⟨x, h1, h2, h3⟩ => ⟨⟨x, h1, h2⟩, h3⟩).mono ?_
    rintro e v ⟨⟨x, h1, h2⟩, h3⟩
    exact ⟨x, h1, h2, h3⟩
  have H3 : Hid (∀ W, RbTo wa q z rest bad W → Calls Tryz.prog 146 #[.pointer (some ⟨q, 0, none⟩)] W fun e w' => ∃ a : Nat, a < 72057594037927936 ∧ e = .returned (.int .i64 (a : Int)) ∧ w'.heap[w.heap.size]? = some (.cells #[.int .i64 0, .int .i64 0, .int .i64 0, .slice none 0 0] 140 (0, 0)) ∧ Hid (RbTo wa q z rest bad w')) := fun W hW => by
    refine (hW.then (P := fun e _ => ∃ a : Nat, a < 72057594037927936 ∧ e = .returned (.int .i64 (a : Int))) fun r b hb => (numberX q z r b W hb).mono fun e v ⟨x, h1, h2, h3⟩ => ⟨⟨x, h1, h2⟩, h3⟩).mono ?_
    rintro e v ⟨⟨x, h1, h2⟩, h3⟩
    refine ⟨x, h1, h2, ?_, h3⟩
    rw [h3.upd1.block w.heap.size (by omega) (by simp; omega)]
    exact HEA.out
  clear hr
  go_upto_region 2 with (first
    | (go_at_call 145; refine (H2.out _ HW2.out).mono ?_; rintro e w3 ⟨b, hb, rfl, HW3⟩)
    | (go_at_call 145; refine H1.out.mono ?_; rintro e w2 ⟨a, ha, rfl, HW2⟩))
  go_wp2_with (go_at_call 146; refine (H3.out _ HW3.out).mono ?_; rintro e w4 ⟨h, hh, rfl, hh4, HW4⟩; have g0 := cell_of_heap hh4 (o := 0); have g1 := cell_of_heap hh4 (o := 1); have g2 := cell_of_heap hh4 (o := 2); have g3 := cell_of_heap hh4 (o := 3); have gf := frozen_of_heap hh4; have HH4 : Hid (w4.heap[w.heap.size]? = some (.cells #[.int .i64 0, .int .i64 0, .int .i64 0, .slice none 0 0] 140 (0, 0))) := hh4; clear hh4)
  obtain ⟨W, hW⟩ : ∃ W, W = (((w4.setCell ⟨w.heap.size, 0, none⟩ (.int .i64 (a : Int))).setCell ⟨w.heap.size, 1, none⟩ (.int .i64 (b : Int))).setCell ⟨w.heap.size, 2, none⟩ (.int .i64 (h : Int))).setCell ⟨w.heap.size, 3, none⟩ (.slice none 0 0) := ⟨_, rfl⟩
  rw [← hW]
  have hWh : W.heap[w.heap.size]? = some (.cells #[.int .i64 (a : Int), .int .i64 (b : Int), .int .i64 (h : Int), .slice none 0 0] 140 (0, 0)) := by
    rw [hW, heap_setCell_same (heap_setCell_same (heap_setCell_same (heap_setCell_same HH4.out _) _) _) _]
    rfl
  have hUW : Upd [some w.heap.size] w4 W := by
    rw [hW]
    exact ((((Upd.refl _ _).setCell (.inl (by simp)) _).setCell (.inl (by simp)) _).setCell (.inl (by simp)) _).setCell (.inl (by simp)) _
  have k0 := cell_of_heap hWh 0
  have k1 := cell_of_heap hWh 1
  have k2 := cell_of_heap hWh 2
  have k3 := cell_of_heap hWh 3
  have HF : RbTo w q z rest bad W := by
    obtain ⟨r, b, a1, a2, a3, a4, a5⟩ := HW4.out
    exact ⟨r, b, a1.upd hUW (by simp; omega) (by simp; omega), ((Upd.of_below (S := [some q]) HBA.out).trans a2 fun i hi => .inl hi).trans hUW fun i hi => .inr (by simp at hi; omega), a3, a4, a5⟩
  clear g0 g1 g2 g3
  exact bodyPost_ret (v := .agg #[.int .i64 (a : Int), .int .i64 (b : Int), .int .i64 (h : Int), .slice none 0 0]) (by simp [results, Tryz.results106, go_sem, k0, k1, k2, k3]) rfl ⟨⟨a, b, h, ha, hb, hh, rfl⟩, HF⟩

theorem Rc.set_cells (x : Rc) {j : Nat} (hj : j < 5) (g : Nat) : x.cells.setIfInBounds j (.int .i64 (g : Int)) = (x.set j g).cells := by
  rcases (show j = 0 ∨ j = 1 ∨ j = 2 ∨ j = 3 ∨ j = 4 by omega) with rfl | rfl | rfl | rfl | rfl <;> rfl

theorem Rc.set_lt {x : Rc} {m : Nat} (h : x.lt m) {j g : Nat} (hg : g < m) : (x.set j g).lt m := by
  obtain ⟨h1, h2, h3, h4, h5⟩ := h
  unfold Rc.set Rc.lt
  refine ⟨?_, ?_, ?_, ?_, ?_⟩ <;> dsimp only <;> split <;> assumption

/-- What comes of reading an entry. -/
def EntTo (org : Nat) (e : Ending) (bad : Bool) : Prop :=
  ∃ (seq : Nat) (ah : Rc) (kn : Nat) (wd : ByteArray) (ct : Nat), e = .returned (.agg #[.int .i64 (org : Int), .int .i64 (seq : Int), .int .i64 (ah.a : Int), .int .i64 (ah.b : Int), .int .i64 (ah.c : Int), .int .i64 (ah.d : Int), .int .i64 (ah.e : Int), .int .i64 (kn : Int), .string wd, .int .i64 (ct : Int)]) ∧
    (bad = false → ∃ x : En, x.org = org ∧ x.seq = seq ∧ x.ah = ah ∧ x.c.k.num = kn ∧ x.c.word = wd ∧ x.c.count = ct ∧ x.ah.lt 72057594037927936 ∧ x.seq = x.ah.get x.org + 1 ∧ readC (textOf x.c) = some x.c)

def EntPost (w : World) (q z org : Nat) (rest : List UInt8) (bad : Bool) (e : Ending) (w' : World) : Prop :=
  ∃ rest' bad', EntTo org e bad' ∧ Rb w' q z rest' bad' ∧ Upd [some q] w w' ∧ rest'.length ≤ rest.length ∧ (bad = true → bad' = true) ∧ (bad' = false → rest'.length < rest.length)

set_option maxRecDepth 100000 in
set_option maxHeartbeats 8000000 in
theorem entryX (w : World) (q z org : Nat) (hog : org < 5) (hz : z < w.heap.size) (hq0 : 0 < q) (hv : VerbsAt w) (rest : List UInt8) (bad : Bool) (hr : Rb w q z rest bad) :
    Calls Tryz.prog 107 #[.pointer (some ⟨q, 0, none⟩), .int .i64 (org : Int)] w fun e w' => EntPost w q z org rest bad e w' := by
  have hql := hr.lt
  go_enter Tryz.func107, Tryz.ntmps107
  go_upto_region 2 with fail
  obtain ⟨wa, hwa⟩ : ∃ wa, (w.alloc (.cells #[.int .i64 0, .int .i64 0, .int .i64 0, .int .i64 0, .int .i64 0, .int .i64 0, .int .i64 0, .int .i64 0, .string ⟨#[]⟩, .int .i64 0] 122)).alloc (.cells (⟨0, 0, 0, 0, 0⟩ : Rc).cells 104) = wa := ⟨_, rfl⟩
  have HBA : Hid (Below w.heap.size w wa) := by show Below _ _ _; rw [← hwa]; exact ((Below.refl _ w).alloc (Nat.le_refl _) _).alloc (by simp) _
  have HZ0 : Hid (wa.heap[w.heap.size]? = some (.cells #[.int .i64 0, .int .i64 0, .int .i64 0, .int .i64 0, .int .i64 0, .int .i64 0, .int .i64 0, .int .i64 0, .string ⟨#[]⟩, .int .i64 0] 122 (0, 0))) := by show _ = _; rw [← hwa, Below.heap_alloc _ _ _ (by simp)]; exact heap_alloc_new w _
  have HE1 : Hid (wa.heap[w.heap.size + 1]? = some (.cells (⟨0, 0, 0, 0, 0⟩ : Rc).cells 104 (0, 0))) := by
    show _ = _
    rw [← hwa]
    have := heap_alloc_new (w.alloc (.cells #[.int .i64 0, .int .i64 0, .int .i64 0, .int .i64 0, .int .i64 0, .int .i64 0, .int .i64 0, .int .i64 0, .string ⟨#[]⟩, .int .i64 0] 122)) (.cells (⟨0, 0, 0, 0, 0⟩ : Rc).cells 104)
    simpa only [World.size_alloc] using this
  have hsa : wa.heap.size = w.heap.size + 2 := by rw [← hwa]; simp
  rw [show (.cells #[.int .i64 0, .int .i64 0, .int .i64 0, .int .i64 0, .int .i64 0] 104 : Obj) = .cells (⟨0, 0, 0, 0, 0⟩ : Rc).cells 104 from rfl, hwa]
  clear hwa
  have HA : Hid (Rb wa q z rest bad) := hr.below HBA.out
  have HV : Hid (∀ W, Upd [some q] w W → VerbsAt W) := fun W hW k => hW.cell (hv k) (by simp; omega)
  clear hr hv
  go_wp2
  go_loopw [9] (fun i wr => ∃ (j : Nat) (ah : Rc), j ≤ 5 ∧ i = .int .i64 j ∧ Hid (ah.lt 72057594037927936 ∧ wr.heap[w.heap.size + 1]? = some (.cells ah.cells 104 (0, 0)) ∧ wr.heap[w.heap.size]? = wa.heap[w.heap.size]? ∧ w.heap.size + 2 ≤ wr.heap.size ∧ ∃ r b, Rb wr q z r b ∧ Upd [some q] w wr ∧ r.length ≤ rest.length ∧ (bad = true → b = true) ∧ (0 < j → b = false → r.length < rest.length))) (fun i _ => 5 - (intOf i).toNat)
  case atStart => exact ⟨0, ⟨0, 0, 0, 0, 0⟩, by omega, rfl, ⟨by decide, by decide, by decide, by decide, by decide⟩, HE1.out, rfl, by omega, rest, bad, HA.out, Upd.of_below HBA.out, Nat.le_refl _, fun e => e, fun e => by omega⟩
  case round =>
    obtain ⟨j, ah, hj, rfl, HI⟩ := hrel
    by_cases hj5 : j < 5
    · have HN : Hid (Calls Tryz.prog 146 #[.pointer (some ⟨q, 0, none⟩)] wr fun e w' => ∃ g : Nat, g < 72057594037927936 ∧ e = .returned (.int .i64 (g : Int)) ∧ (∃ ov, w'.cell? ⟨w.heap.size + 1, j, none⟩ = some ov ∧ ov.oneCell' = true) ∧ w'.frozen? ⟨w.heap.size + 1, j, none⟩ = false ∧ Hid (w'.heap[w.heap.size + 1]? = some (.cells ah.cells 104 (0, 0)) ∧ w'.heap[w.heap.size]? = wa.heap[w.heap.size]? ∧ w.heap.size + 2 ≤ w'.heap.size ∧ RbTo w q z rest bad w')) := by
        obtain ⟨h0, h1, h3, h5, r, b, a1, a2, a3, a4, a5⟩ := HI.out
        refine (numberX q z r b wr a1).mono ?_
        rintro e w' ⟨g, hg, e1, e2⟩
        have e3 := e2.upd1
        have hb1 : w'.heap[w.heap.size + 1]? = some (.cells ah.cells 104 (0, 0)) := by rw [e3.block _ (by omega) (by simp; omega)]; exact h1
        refine ⟨g, hg, e1, ⟨.int .i64 (ah.get j : Int), ?_, rfl⟩, frozen_of_heap hb1 j, hb1, ?_, by have := e3.size; omega, RbTo.trans a2 a3 a4 e2⟩
        · rw [cell_of_heap hb1, Rc.cells_get _ hj5]
        · rw [e3.block _ (by omega) (by simp; omega)]; exact h3
      have e5 : ((j : Int) < 5) = True := by simp; omega
      have j0 : (0 : Int) ≤ (j : Int) := by omega
      go_wp2_with (go_at_call 146; refine HN.out.mono ?_; rintro e w2 ⟨g, hg, rfl, ⟨ov, hov, hov1⟩, hfz, HW2⟩)
      go_roundw
      case rel =>
        obtain ⟨h1, h3, h5, r, b, a1, a2, a3, a4, a5⟩ := HW2.out
        have hu : Upd [some (w.heap.size + 1)] w2 (w2.setCell ⟨w.heap.size + 1, j, none⟩ (.int .i64 (g : Int))) := (Upd.refl _ _).setCell (.inl (by simp)) _
        refine ⟨j + 1, ah.set j g, by omega, by simp, Rc.set_lt HI.out.1 hg, ?_, ?_, by have := hu.size; omega, r, b, a1.upd hu (by simp; omega) (by simp; omega), a2.trans hu fun i hi => .inr (by simp at hi; omega), a3, a4, fun _ => a5⟩
        · rw [heap_setCell_same h1, Rc.set_cells ah hj5]
        · rw [hu.block _ (by omega) (by simp)]; exact h3
      case measure => simp [intOf]; omega
    · obtain rfl : j = 5 := by omega
      have e5 : (((5 : Nat) : Int) < 5) = False := by simp
      obtain ⟨r1, b1, HB1⟩ : ∃ r b, Hid (Rb wr q z r b ∧ Upd [some q] w wr ∧ r.length ≤ rest.length ∧ (bad = true → b = true) ∧ (b = false → r.length < rest.length)) := by
        obtain ⟨h0, h1, h3, h5, r, b, a1, a2, a3, a4, a5⟩ := HI.out
        exact ⟨r, b, a1, a2, a3, a4, a5 (by omega)⟩
      have HT : Hid (Calls Tryz.prog 147 #[.pointer (some ⟨q, 0, none⟩)] wr fun e w' => ∃ s : ByteArray, s.size < 256 ∧ e = .returned (.string s) ∧ Hid (RbTo wr q z r1 b1 w')) := textX q z r1 b1 wr HB1.out.1
      have HP : Hid (∀ s W, s.size < 256 → Upd [some q] wr W → Calls Tryz.prog 46 #[.string s] W fun e w' => ∃ (kn ct : Nat) (wd : ByteArray) (ok : Bool), e = .returned (.tuple #[.agg #[.int .i64 (kn : Int), .string wd, .int .i64 (ct : Int)], .bool ok]) ∧ Hid (Below W.heap.size W w') ∧ Hid (ok = true → ∃ c : Cm, CmOk c ∧ c.k.num = kn ∧ c.word = wd ∧ c.count = ct ∧ readC (textOf c) = some c)) := fun s W hs hW => by
        refine (parse_any s W (by unfold maxLen; omega) (HV.out W (HB1.out.2.1.trans hW fun i hi => .inl hi))).mono ?_
        rintro e w' ⟨he, hb⟩
        refine ⟨_, _, _, _, he, hb, fun hok => ?_⟩
        cases hrc : readC s with
        | none => rw [hrc] at hok; simp at hok
        | some c => exact ⟨c, (read_parts hrc).1, rfl, rfl, rfl, by rw [(read_parts hrc).2]; exact hrc⟩
      go_upto_region 8 with (first
        | (go_at_call 46; refine (HP.out _ _ hs HW2.out.upd1).mono ?_; rintro e w3 ⟨kn, ct, wd, ok, rfl, HW3, HOK⟩)
        | (go_at_call 147; refine HT.out.mono ?_; rintro e w2 ⟨s, hs, rfl, HW2⟩))
      obtain ⟨w4, hw4⟩ : ∃ w4, w3.alloc (.cells #[.int .i64 (kn : Int), .string wd, .int .i64 (ct : Int)] 116) = w4 := ⟨_, rfl⟩
      obtain ⟨h0, h1, h3, h5, -⟩ := HI.out
      have hs2 := HW2.out.upd1.size
      have hs3 := HW3.out.size
      have hb4 : Below w3.heap.size w3 w4 := by rw [← hw4]; exact (Below.refl _ w3).alloc (Nat.le_refl _) _
      have h7 : w4.heap[w3.heap.size]? = some (.cells #[.int .i64 (kn : Int), .string wd, .int .i64 (ct : Int)] 116 (0, 0)) := by rw [← hw4]; exact heap_alloc_new w3 _
      have hu4 : Upd [some q] wr w4 := (HW2.out.upd1.below HW3.out).below hb4
      rw [hw4]
      have hne : w.heap.size + 2 ≤ w3.heap.size := by omega
      have o0 : (0 : Int) ≤ (org : Int) := by omega
      have o5 : (org : Int) < 5 := by omega
      have hgl := Rc.get_lt h0 (by omega) org
      obtain ⟨r4, b4, HR4⟩ : ∃ r b, Hid (Rb w4 q z r b ∧ Upd [some q] w w4 ∧ r.length ≤ rest.length ∧ (bad = true → b = true) ∧ (b = false → r.length < rest.length)) := by
        obtain ⟨r, b, a1, a2, a3, a4, a5⟩ := (HW2.out.below HW3.out).below hb4
        obtain ⟨c1, c2, c3, c4, c5⟩ := HB1.out
        exact ⟨r, b, a1, c2.trans a2 fun i hi => .inl hi, by omega, fun e => a4 (c4 e), fun e => by have := a5 e; omega⟩
      have hq3 : q < w3.heap.size := by omega
      have H14 : Hid (w4.heap[w.heap.size + 1]? = some (.cells ah.cells 104 (0, 0))) := by show _ = _; rw [hu4.block _ (by omega) (by simp; omega), h1]
      have H04 : Hid (w4.heap[w.heap.size]? = some (.cells #[.int .i64 0, .int .i64 0, .int .i64 0, .int .i64 0, .int .i64 0, .int .i64 0, .int .i64 0, .int .i64 0, .string ⟨#[]⟩, .int .i64 0] 122 (0, 0))) := by show _ = _; rw [hu4.block _ (by omega) (by simp; omega), h3]; exact HZ0.out
      have H74 : Hid (w4.heap[w3.heap.size]? = some (.cells #[.int .i64 (kn : Int), .string wd, .int .i64 (ct : Int)] 116 (0, 0))) := h7
      have hs4 : w3.heap.size < w4.heap.size := (Array.getElem?_eq_some_iff.1 h7).1
      have HAH : Hid (ah.lt 72057594037927936) := h0
      clear h0 h1 h3 h5 hs2 hs3 hb4 h7 hu4 hw4 HW2 HW3 HT HP
      cases ok with
      | true =>
        have HEN : Hid (∀ seq : Nat, seq = ah.get org + 1 → EntTo org (.returned (.agg #[.int .i64 (org : Int), .int .i64 (seq : Int), .int .i64 (ah.a : Int), .int .i64 (ah.b : Int), .int .i64 (ah.c : Int), .int .i64 (ah.d : Int), .int .i64 (ah.e : Int), .int .i64 (kn : Int), .string wd, .int .i64 (ct : Int)])) b4) := fun seq hseq => by
          obtain ⟨c, c1, c2, c3, c4, c5⟩ := HOK.out rfl
          obtain ⟨l1, l2, l3, l4, l5⟩ := HAH.out
          exact ⟨seq, ah, kn, wd, ct, rfl, fun _ => ⟨⟨org, seq, ah, c, hog, by omega, ⟨by omega, by omega, by omega, by omega, by omega⟩, c1⟩, rfl, rfl, rfl, c2, c3, c4, HAH.out, hseq, c5⟩⟩
        obtain ⟨seq, hseq⟩ : ∃ seq, seq = ah.get org + 1 := ⟨_, rfl⟩
        have HF := HEN.out seq hseq
        have hsq : ((ah.get org : Nat) : Int) + 1 = (seq : Int) := by omega
        have HFH : Hid (EntTo org (.returned (.agg #[.int .i64 (org : Int), .int .i64 (seq : Int), .int .i64 (ah.a : Int), .int .i64 (ah.b : Int), .int .i64 (ah.c : Int), .int .i64 (ah.d : Int), .int .i64 (ah.e : Int), .int .i64 (kn : Int), .string wd, .int .i64 (ct : Int)])) b4) := HF
        clear HF HEN hseq
        have co : w4.cell? ⟨w.heap.size + 1, org, none⟩ = some (.int .i64 (ah.get org : Int)) := by rw [cell_of_heap H14.out, Rc.cells_get _ hog]
        have bc0 : w4.cell? ⟨w.heap.size + 1, 0, none⟩ = some (.int .i64 (ah.a : Int)) := by rw [cell_of_heap H14.out]; rfl
        have bc1 : w4.cell? ⟨w.heap.size + 1, 1, none⟩ = some (.int .i64 (ah.b : Int)) := by rw [cell_of_heap H14.out]; rfl
        have bc2 : w4.cell? ⟨w.heap.size + 1, 2, none⟩ = some (.int .i64 (ah.c : Int)) := by rw [cell_of_heap H14.out]; rfl
        have bc3 : w4.cell? ⟨w.heap.size + 1, 3, none⟩ = some (.int .i64 (ah.d : Int)) := by rw [cell_of_heap H14.out]; rfl
        have bc4 : w4.cell? ⟨w.heap.size + 1, 4, none⟩ = some (.int .i64 (ah.e : Int)) := by rw [cell_of_heap H14.out]; rfl
        have m0 : w4.cell? ⟨w3.heap.size, 0, none⟩ = some (.int .i64 (kn : Int)) := by rw [cell_of_heap H74.out]; rfl
        have m1 : w4.cell? ⟨w3.heap.size, 1, none⟩ = some (.string wd) := by rw [cell_of_heap H74.out]; rfl
        have m2 : w4.cell? ⟨w3.heap.size, 2, none⟩ = some (.int .i64 (ct : Int)) := by rw [cell_of_heap H74.out]; rfl
        have a0 : w4.cell? ⟨w.heap.size, 0, none⟩ = some (.int .i64 0) := by rw [cell_of_heap H04.out]; rfl
        have a1 : w4.cell? ⟨w.heap.size, 1, none⟩ = some (.int .i64 0) := by rw [cell_of_heap H04.out]; rfl
        have a2 : w4.cell? ⟨w.heap.size, 2, none⟩ = some (.int .i64 0) := by rw [cell_of_heap H04.out]; rfl
        have a3 : w4.cell? ⟨w.heap.size, 3, none⟩ = some (.int .i64 0) := by rw [cell_of_heap H04.out]; rfl
        have a4 : w4.cell? ⟨w.heap.size, 4, none⟩ = some (.int .i64 0) := by rw [cell_of_heap H04.out]; rfl
        have a5 : w4.cell? ⟨w.heap.size, 5, none⟩ = some (.int .i64 0) := by rw [cell_of_heap H04.out]; rfl
        have a6 : w4.cell? ⟨w.heap.size, 6, none⟩ = some (.int .i64 0) := by rw [cell_of_heap H04.out]; rfl
        have a7 : w4.cell? ⟨w.heap.size, 7, none⟩ = some (.int .i64 0) := by rw [cell_of_heap H04.out]; rfl
        have a8 : w4.cell? ⟨w.heap.size, 8, none⟩ = some (.string ⟨#[]⟩) := by rw [cell_of_heap H04.out]; rfl
        have a9 : w4.cell? ⟨w.heap.size, 9, none⟩ = some (.int .i64 0) := by rw [cell_of_heap H04.out]; rfl
        have fz : ∀ o, w4.frozen? ⟨w.heap.size, o, none⟩ = false := frozen_of_heap H04.out
        go_upto_region 10 with fail
        go_region
        have hV0 : Upd [some w.heap.size] w4 w4 := Upd.refl _ _
        obtain ⟨W0, hW0⟩ : ∃ W, w4.setCell ⟨w.heap.size, 0, none⟩ (.int .i64 (org : Int)) = W := ⟨_, rfl⟩
        have hH0 : W0.heap[w.heap.size]? = some (.cells #[.int .i64 (org : Int), .int .i64 0, .int .i64 0, .int .i64 0, .int .i64 0, .int .i64 0, .int .i64 0, .int .i64 0, .string ⟨#[]⟩, .int .i64 0] 122 (0, 0)) := by rw [← hW0, heap_setCell_same H04.out]; rfl
        have hV1 : Upd [some w.heap.size] w4 W0 := by rw [← hW0]; exact hV0.setCell (.inl (by simp)) _
        rw [hW0]
        obtain ⟨W1, hW1⟩ : ∃ W, W0.setCell ⟨w.heap.size, 1, none⟩ (.int .i64 (seq : Int)) = W := ⟨_, rfl⟩
        have hH1 : W1.heap[w.heap.size]? = some (.cells #[.int .i64 (org : Int), .int .i64 (seq : Int), .int .i64 0, .int .i64 0, .int .i64 0, .int .i64 0, .int .i64 0, .int .i64 0, .string ⟨#[]⟩, .int .i64 0] 122 (0, 0)) := by rw [← hW1, heap_setCell_same hH0]; rfl
        have hV2 : Upd [some w.heap.size] w4 W1 := by rw [← hW1]; exact hV1.setCell (.inl (by simp)) _
        rw [hW1]
        obtain ⟨W2, hW2⟩ : ∃ W, W1.setCell ⟨w.heap.size, 2, none⟩ (.int .i64 (ah.a : Int)) = W := ⟨_, rfl⟩
        have hH2 : W2.heap[w.heap.size]? = some (.cells #[.int .i64 (org : Int), .int .i64 (seq : Int), .int .i64 (ah.a : Int), .int .i64 0, .int .i64 0, .int .i64 0, .int .i64 0, .int .i64 0, .string ⟨#[]⟩, .int .i64 0] 122 (0, 0)) := by rw [← hW2, heap_setCell_same hH1]; rfl
        have hV3 : Upd [some w.heap.size] w4 W2 := by rw [← hW2]; exact hV2.setCell (.inl (by simp)) _
        rw [hW2]
        obtain ⟨W3, hW3⟩ : ∃ W, W2.setCell ⟨w.heap.size, 3, none⟩ (.int .i64 (ah.b : Int)) = W := ⟨_, rfl⟩
        have hH3 : W3.heap[w.heap.size]? = some (.cells #[.int .i64 (org : Int), .int .i64 (seq : Int), .int .i64 (ah.a : Int), .int .i64 (ah.b : Int), .int .i64 0, .int .i64 0, .int .i64 0, .int .i64 0, .string ⟨#[]⟩, .int .i64 0] 122 (0, 0)) := by rw [← hW3, heap_setCell_same hH2]; rfl
        have hV4 : Upd [some w.heap.size] w4 W3 := by rw [← hW3]; exact hV3.setCell (.inl (by simp)) _
        rw [hW3]
        obtain ⟨W4, hW4⟩ : ∃ W, W3.setCell ⟨w.heap.size, 4, none⟩ (.int .i64 (ah.c : Int)) = W := ⟨_, rfl⟩
        have hH4 : W4.heap[w.heap.size]? = some (.cells #[.int .i64 (org : Int), .int .i64 (seq : Int), .int .i64 (ah.a : Int), .int .i64 (ah.b : Int), .int .i64 (ah.c : Int), .int .i64 0, .int .i64 0, .int .i64 0, .string ⟨#[]⟩, .int .i64 0] 122 (0, 0)) := by rw [← hW4, heap_setCell_same hH3]; rfl
        have hV5 : Upd [some w.heap.size] w4 W4 := by rw [← hW4]; exact hV4.setCell (.inl (by simp)) _
        rw [hW4]
        obtain ⟨W5, hW5⟩ : ∃ W, W4.setCell ⟨w.heap.size, 5, none⟩ (.int .i64 (ah.d : Int)) = W := ⟨_, rfl⟩
        have hH5 : W5.heap[w.heap.size]? = some (.cells #[.int .i64 (org : Int), .int .i64 (seq : Int), .int .i64 (ah.a : Int), .int .i64 (ah.b : Int), .int .i64 (ah.c : Int), .int .i64 (ah.d : Int), .int .i64 0, .int .i64 0, .string ⟨#[]⟩, .int .i64 0] 122 (0, 0)) := by rw [← hW5, heap_setCell_same hH4]; rfl
        have hV6 : Upd [some w.heap.size] w4 W5 := by rw [← hW5]; exact hV5.setCell (.inl (by simp)) _
        rw [hW5]
        obtain ⟨W6, hW6⟩ : ∃ W, W5.setCell ⟨w.heap.size, 6, none⟩ (.int .i64 (ah.e : Int)) = W := ⟨_, rfl⟩
        have hH6 : W6.heap[w.heap.size]? = some (.cells #[.int .i64 (org : Int), .int .i64 (seq : Int), .int .i64 (ah.a : Int), .int .i64 (ah.b : Int), .int .i64 (ah.c : Int), .int .i64 (ah.d : Int), .int .i64 (ah.e : Int), .int .i64 0, .string ⟨#[]⟩, .int .i64 0] 122 (0, 0)) := by rw [← hW6, heap_setCell_same hH5]; rfl
        have hV7 : Upd [some w.heap.size] w4 W6 := by rw [← hW6]; exact hV6.setCell (.inl (by simp)) _
        rw [hW6]
        obtain ⟨W7, hW7⟩ : ∃ W, W6.setCell ⟨w.heap.size, 7, none⟩ (.int .i64 (kn : Int)) = W := ⟨_, rfl⟩
        have hH7 : W7.heap[w.heap.size]? = some (.cells #[.int .i64 (org : Int), .int .i64 (seq : Int), .int .i64 (ah.a : Int), .int .i64 (ah.b : Int), .int .i64 (ah.c : Int), .int .i64 (ah.d : Int), .int .i64 (ah.e : Int), .int .i64 (kn : Int), .string ⟨#[]⟩, .int .i64 0] 122 (0, 0)) := by rw [← hW7, heap_setCell_same hH6]; rfl
        have hV8 : Upd [some w.heap.size] w4 W7 := by rw [← hW7]; exact hV7.setCell (.inl (by simp)) _
        rw [hW7]
        obtain ⟨W8, hW8⟩ : ∃ W, W7.setCell ⟨w.heap.size, 8, none⟩ (.string wd) = W := ⟨_, rfl⟩
        have hH8 : W8.heap[w.heap.size]? = some (.cells #[.int .i64 (org : Int), .int .i64 (seq : Int), .int .i64 (ah.a : Int), .int .i64 (ah.b : Int), .int .i64 (ah.c : Int), .int .i64 (ah.d : Int), .int .i64 (ah.e : Int), .int .i64 (kn : Int), .string wd, .int .i64 0] 122 (0, 0)) := by rw [← hW8, heap_setCell_same hH7]; rfl
        have hV9 : Upd [some w.heap.size] w4 W8 := by rw [← hW8]; exact hV8.setCell (.inl (by simp)) _
        rw [hW8]
        obtain ⟨W9, hW9⟩ : ∃ W, W8.setCell ⟨w.heap.size, 9, none⟩ (.int .i64 (ct : Int)) = W := ⟨_, rfl⟩
        have hH9 : W9.heap[w.heap.size]? = some (.cells #[.int .i64 (org : Int), .int .i64 (seq : Int), .int .i64 (ah.a : Int), .int .i64 (ah.b : Int), .int .i64 (ah.c : Int), .int .i64 (ah.d : Int), .int .i64 (ah.e : Int), .int .i64 (kn : Int), .string wd, .int .i64 (ct : Int)] 122 (0, 0)) := by rw [← hW9, heap_setCell_same hH8]; rfl
        have hV10 : Upd [some w.heap.size] w4 W9 := by rw [← hW9]; exact hV9.setCell (.inl (by simp)) _
        rw [hW9]
        clear hW0 hW1 hW2 hW3 hW4 hW5 hW6 hW7 hW8 hW9 hH0 hH1 hH2 hH3 hH4 hH5 hH6 hH7 hH8 hV0 hV1 hV2 hV3 hV4 hV5 hV6 hV7 hV8 hV9
        have hWd : W9.drew.heap[w.heap.size]? = some (.cells #[.int .i64 (org : Int), .int .i64 (seq : Int), .int .i64 (ah.a : Int), .int .i64 (ah.b : Int), .int .i64 (ah.c : Int), .int .i64 (ah.d : Int), .int .i64 (ah.e : Int), .int .i64 (kn : Int), .string wd, .int .i64 (ct : Int)] 122 (0, 0)) := hH9
        have HFI : Hid (Rb W9.drew q z r4 b4 ∧ Upd [some q] w W9.drew ∧ r4.length ≤ rest.length ∧ (bad = true → b4 = true) ∧ (b4 = false → r4.length < rest.length)) := ⟨HR4.out.1.upd (Upd.drew hV10) (by simp; omega) (by simp; omega), HR4.out.2.1.trans (Upd.drew hV10) (fun i hi => .inr (by simp at hi; omega)), HR4.out.2.2⟩
        clear hV10 a0 a1 a2 a3 a4 a5 a6 a7 a8 a9 fz co bc0 bc1 bc2 bc3 bc4 m0 m1 m2
        have n0 : W9.drew.cell? ⟨w.heap.size, 0, none⟩ = some (.int .i64 (org : Int)) := by rw [cell_of_heap hWd]; rfl
        have n1 : W9.drew.cell? ⟨w.heap.size, 1, none⟩ = some (.int .i64 (seq : Int)) := by rw [cell_of_heap hWd]; rfl
        have n2 : W9.drew.cell? ⟨w.heap.size, 2, none⟩ = some (.int .i64 (ah.a : Int)) := by rw [cell_of_heap hWd]; rfl
        have n3 : W9.drew.cell? ⟨w.heap.size, 3, none⟩ = some (.int .i64 (ah.b : Int)) := by rw [cell_of_heap hWd]; rfl
        have n4 : W9.drew.cell? ⟨w.heap.size, 4, none⟩ = some (.int .i64 (ah.c : Int)) := by rw [cell_of_heap hWd]; rfl
        have n5 : W9.drew.cell? ⟨w.heap.size, 5, none⟩ = some (.int .i64 (ah.d : Int)) := by rw [cell_of_heap hWd]; rfl
        have n6 : W9.drew.cell? ⟨w.heap.size, 6, none⟩ = some (.int .i64 (ah.e : Int)) := by rw [cell_of_heap hWd]; rfl
        have n7 : W9.drew.cell? ⟨w.heap.size, 7, none⟩ = some (.int .i64 (kn : Int)) := by rw [cell_of_heap hWd]; rfl
        have n8 : W9.drew.cell? ⟨w.heap.size, 8, none⟩ = some (.string wd) := by rw [cell_of_heap hWd]; rfl
        have n9 : W9.drew.cell? ⟨w.heap.size, 9, none⟩ = some (.int .i64 (ct : Int)) := by rw [cell_of_heap hWd]; rfl
        clear hWd hH9
        generalize W9.drew = Wd at *
        go_wp2
        exact bodyPost_ret (v := .agg #[.int .i64 (org : Int), .int .i64 (seq : Int), .int .i64 (ah.a : Int), .int .i64 (ah.b : Int), .int .i64 (ah.c : Int), .int .i64 (ah.d : Int), .int .i64 (ah.e : Int), .int .i64 (kn : Int), .string wd, .int .i64 (ct : Int)]) (by simp [results, Tryz.results107, go_sem, n0, n1, n2, n3, n4, n5, n6, n7, n8, n9]) rfl ⟨r4, b4, HFH.out, HFI.out⟩
      | false =>
        have HEN : Hid (∀ seq : Nat, seq = ah.get org + 1 → EntTo org (.returned (.agg #[.int .i64 (org : Int), .int .i64 (seq : Int), .int .i64 (ah.a : Int), .int .i64 (ah.b : Int), .int .i64 (ah.c : Int), .int .i64 (ah.d : Int), .int .i64 (ah.e : Int), .int .i64 (kn : Int), .string wd, .int .i64 (ct : Int)])) true) := fun seq hseq => ⟨seq, ah, kn, wd, ct, rfl, fun e => by simp at e⟩
        obtain ⟨c1, f1⟩ := HR4.out.1.c1
        obtain ⟨w5, hw5⟩ : ∃ w5, w4.setCell ⟨q, 1, none⟩ (.bool true) = w5 := ⟨_, rfl⟩
        have hsp := HR4.out.1.spoil
        rw [hw5] at hsp
        have H15 : Hid (w5.heap[w.heap.size + 1]? = some (.cells ah.cells 104 (0, 0))) := by show _ = _; rw [hsp.2.block _ (by omega) (by simp; omega)]; exact H14.out
        have H05 : Hid (w5.heap[w.heap.size]? = some (.cells #[.int .i64 0, .int .i64 0, .int .i64 0, .int .i64 0, .int .i64 0, .int .i64 0, .int .i64 0, .int .i64 0, .string ⟨#[]⟩, .int .i64 0] 122 (0, 0))) := by show _ = _; rw [hsp.2.block _ (by omega) (by simp; omega)]; exact H04.out
        have H75 : Hid (w5.heap[w3.heap.size]? = some (.cells #[.int .i64 (kn : Int), .string wd, .int .i64 (ct : Int)] 116 (0, 0))) := by show _ = _; rw [hsp.2.block _ (by omega) (by simp; omega)]; exact H74.out
        have HR5 : Hid (Rb w5 q z r4 true ∧ Upd [some q] w w5 ∧ r4.length ≤ rest.length ∧ (bad = true → true = true) ∧ (true = false → r4.length < rest.length)) := ⟨hsp.1, HR4.out.2.1.trans hsp.2 fun i hi => .inl hi, HR4.out.2.2.1, fun _ => rfl, fun e => by simp at e⟩
        clear hsp HR4 H14 H04 H74
        go_upto_region 10 with fail
        (try rw [hw5])
        clear hw5 c1 f1
        obtain ⟨seq, hseq⟩ : ∃ seq, seq = ah.get org + 1 := ⟨_, rfl⟩
        have HF := HEN.out seq hseq
        have hsq : ((ah.get org : Nat) : Int) + 1 = (seq : Int) := by omega
        have HFH : Hid (EntTo org (.returned (.agg #[.int .i64 (org : Int), .int .i64 (seq : Int), .int .i64 (ah.a : Int), .int .i64 (ah.b : Int), .int .i64 (ah.c : Int), .int .i64 (ah.d : Int), .int .i64 (ah.e : Int), .int .i64 (kn : Int), .string wd, .int .i64 (ct : Int)])) true) := HF
        clear HF HEN hseq
        have co : w5.cell? ⟨w.heap.size + 1, org, none⟩ = some (.int .i64 (ah.get org : Int)) := by rw [cell_of_heap H15.out, Rc.cells_get _ hog]
        have bc0 : w5.cell? ⟨w.heap.size + 1, 0, none⟩ = some (.int .i64 (ah.a : Int)) := by rw [cell_of_heap H15.out]; rfl
        have bc1 : w5.cell? ⟨w.heap.size + 1, 1, none⟩ = some (.int .i64 (ah.b : Int)) := by rw [cell_of_heap H15.out]; rfl
        have bc2 : w5.cell? ⟨w.heap.size + 1, 2, none⟩ = some (.int .i64 (ah.c : Int)) := by rw [cell_of_heap H15.out]; rfl
        have bc3 : w5.cell? ⟨w.heap.size + 1, 3, none⟩ = some (.int .i64 (ah.d : Int)) := by rw [cell_of_heap H15.out]; rfl
        have bc4 : w5.cell? ⟨w.heap.size + 1, 4, none⟩ = some (.int .i64 (ah.e : Int)) := by rw [cell_of_heap H15.out]; rfl
        have m0 : w5.cell? ⟨w3.heap.size, 0, none⟩ = some (.int .i64 (kn : Int)) := by rw [cell_of_heap H75.out]; rfl
        have m1 : w5.cell? ⟨w3.heap.size, 1, none⟩ = some (.string wd) := by rw [cell_of_heap H75.out]; rfl
        have m2 : w5.cell? ⟨w3.heap.size, 2, none⟩ = some (.int .i64 (ct : Int)) := by rw [cell_of_heap H75.out]; rfl
        have a0 : w5.cell? ⟨w.heap.size, 0, none⟩ = some (.int .i64 0) := by rw [cell_of_heap H05.out]; rfl
        have a1 : w5.cell? ⟨w.heap.size, 1, none⟩ = some (.int .i64 0) := by rw [cell_of_heap H05.out]; rfl
        have a2 : w5.cell? ⟨w.heap.size, 2, none⟩ = some (.int .i64 0) := by rw [cell_of_heap H05.out]; rfl
        have a3 : w5.cell? ⟨w.heap.size, 3, none⟩ = some (.int .i64 0) := by rw [cell_of_heap H05.out]; rfl
        have a4 : w5.cell? ⟨w.heap.size, 4, none⟩ = some (.int .i64 0) := by rw [cell_of_heap H05.out]; rfl
        have a5 : w5.cell? ⟨w.heap.size, 5, none⟩ = some (.int .i64 0) := by rw [cell_of_heap H05.out]; rfl
        have a6 : w5.cell? ⟨w.heap.size, 6, none⟩ = some (.int .i64 0) := by rw [cell_of_heap H05.out]; rfl
        have a7 : w5.cell? ⟨w.heap.size, 7, none⟩ = some (.int .i64 0) := by rw [cell_of_heap H05.out]; rfl
        have a8 : w5.cell? ⟨w.heap.size, 8, none⟩ = some (.string ⟨#[]⟩) := by rw [cell_of_heap H05.out]; rfl
        have a9 : w5.cell? ⟨w.heap.size, 9, none⟩ = some (.int .i64 0) := by rw [cell_of_heap H05.out]; rfl
        have fz : ∀ o, w5.frozen? ⟨w.heap.size, o, none⟩ = false := frozen_of_heap H05.out
        go_upto_region 10 with fail
        go_region
        have hV0 : Upd [some w.heap.size] w5 w5 := Upd.refl _ _
        obtain ⟨W0, hW0⟩ : ∃ W, w5.setCell ⟨w.heap.size, 0, none⟩ (.int .i64 (org : Int)) = W := ⟨_, rfl⟩
        have hH0 : W0.heap[w.heap.size]? = some (.cells #[.int .i64 (org : Int), .int .i64 0, .int .i64 0, .int .i64 0, .int .i64 0, .int .i64 0, .int .i64 0, .int .i64 0, .string ⟨#[]⟩, .int .i64 0] 122 (0, 0)) := by rw [← hW0, heap_setCell_same H05.out]; rfl
        have hV1 : Upd [some w.heap.size] w5 W0 := by rw [← hW0]; exact hV0.setCell (.inl (by simp)) _
        rw [hW0]
        obtain ⟨W1, hW1⟩ : ∃ W, W0.setCell ⟨w.heap.size, 1, none⟩ (.int .i64 (seq : Int)) = W := ⟨_, rfl⟩
        have hH1 : W1.heap[w.heap.size]? = some (.cells #[.int .i64 (org : Int), .int .i64 (seq : Int), .int .i64 0, .int .i64 0, .int .i64 0, .int .i64 0, .int .i64 0, .int .i64 0, .string ⟨#[]⟩, .int .i64 0] 122 (0, 0)) := by rw [← hW1, heap_setCell_same hH0]; rfl
        have hV2 : Upd [some w.heap.size] w5 W1 := by rw [← hW1]; exact hV1.setCell (.inl (by simp)) _
        rw [hW1]
        obtain ⟨W2, hW2⟩ : ∃ W, W1.setCell ⟨w.heap.size, 2, none⟩ (.int .i64 (ah.a : Int)) = W := ⟨_, rfl⟩
        have hH2 : W2.heap[w.heap.size]? = some (.cells #[.int .i64 (org : Int), .int .i64 (seq : Int), .int .i64 (ah.a : Int), .int .i64 0, .int .i64 0, .int .i64 0, .int .i64 0, .int .i64 0, .string ⟨#[]⟩, .int .i64 0] 122 (0, 0)) := by rw [← hW2, heap_setCell_same hH1]; rfl
        have hV3 : Upd [some w.heap.size] w5 W2 := by rw [← hW2]; exact hV2.setCell (.inl (by simp)) _
        rw [hW2]
        obtain ⟨W3, hW3⟩ : ∃ W, W2.setCell ⟨w.heap.size, 3, none⟩ (.int .i64 (ah.b : Int)) = W := ⟨_, rfl⟩
        have hH3 : W3.heap[w.heap.size]? = some (.cells #[.int .i64 (org : Int), .int .i64 (seq : Int), .int .i64 (ah.a : Int), .int .i64 (ah.b : Int), .int .i64 0, .int .i64 0, .int .i64 0, .int .i64 0, .string ⟨#[]⟩, .int .i64 0] 122 (0, 0)) := by rw [← hW3, heap_setCell_same hH2]; rfl
        have hV4 : Upd [some w.heap.size] w5 W3 := by rw [← hW3]; exact hV3.setCell (.inl (by simp)) _
        rw [hW3]
        obtain ⟨W4, hW4⟩ : ∃ W, W3.setCell ⟨w.heap.size, 4, none⟩ (.int .i64 (ah.c : Int)) = W := ⟨_, rfl⟩
        have hH4 : W4.heap[w.heap.size]? = some (.cells #[.int .i64 (org : Int), .int .i64 (seq : Int), .int .i64 (ah.a : Int), .int .i64 (ah.b : Int), .int .i64 (ah.c : Int), .int .i64 0, .int .i64 0, .int .i64 0, .string ⟨#[]⟩, .int .i64 0] 122 (0, 0)) := by rw [← hW4, heap_setCell_same hH3]; rfl
        have hV5 : Upd [some w.heap.size] w5 W4 := by rw [← hW4]; exact hV4.setCell (.inl (by simp)) _
        rw [hW4]
        obtain ⟨W5, hW5⟩ : ∃ W, W4.setCell ⟨w.heap.size, 5, none⟩ (.int .i64 (ah.d : Int)) = W := ⟨_, rfl⟩
        have hH5 : W5.heap[w.heap.size]? = some (.cells #[.int .i64 (org : Int), .int .i64 (seq : Int), .int .i64 (ah.a : Int), .int .i64 (ah.b : Int), .int .i64 (ah.c : Int), .int .i64 (ah.d : Int), .int .i64 0, .int .i64 0, .string ⟨#[]⟩, .int .i64 0] 122 (0, 0)) := by rw [← hW5, heap_setCell_same hH4]; rfl
        have hV6 : Upd [some w.heap.size] w5 W5 := by rw [← hW5]; exact hV5.setCell (.inl (by simp)) _
        rw [hW5]
        obtain ⟨W6, hW6⟩ : ∃ W, W5.setCell ⟨w.heap.size, 6, none⟩ (.int .i64 (ah.e : Int)) = W := ⟨_, rfl⟩
        have hH6 : W6.heap[w.heap.size]? = some (.cells #[.int .i64 (org : Int), .int .i64 (seq : Int), .int .i64 (ah.a : Int), .int .i64 (ah.b : Int), .int .i64 (ah.c : Int), .int .i64 (ah.d : Int), .int .i64 (ah.e : Int), .int .i64 0, .string ⟨#[]⟩, .int .i64 0] 122 (0, 0)) := by rw [← hW6, heap_setCell_same hH5]; rfl
        have hV7 : Upd [some w.heap.size] w5 W6 := by rw [← hW6]; exact hV6.setCell (.inl (by simp)) _
        rw [hW6]
        obtain ⟨W7, hW7⟩ : ∃ W, W6.setCell ⟨w.heap.size, 7, none⟩ (.int .i64 (kn : Int)) = W := ⟨_, rfl⟩
        have hH7 : W7.heap[w.heap.size]? = some (.cells #[.int .i64 (org : Int), .int .i64 (seq : Int), .int .i64 (ah.a : Int), .int .i64 (ah.b : Int), .int .i64 (ah.c : Int), .int .i64 (ah.d : Int), .int .i64 (ah.e : Int), .int .i64 (kn : Int), .string ⟨#[]⟩, .int .i64 0] 122 (0, 0)) := by rw [← hW7, heap_setCell_same hH6]; rfl
        have hV8 : Upd [some w.heap.size] w5 W7 := by rw [← hW7]; exact hV7.setCell (.inl (by simp)) _
        rw [hW7]
        obtain ⟨W8, hW8⟩ : ∃ W, W7.setCell ⟨w.heap.size, 8, none⟩ (.string wd) = W := ⟨_, rfl⟩
        have hH8 : W8.heap[w.heap.size]? = some (.cells #[.int .i64 (org : Int), .int .i64 (seq : Int), .int .i64 (ah.a : Int), .int .i64 (ah.b : Int), .int .i64 (ah.c : Int), .int .i64 (ah.d : Int), .int .i64 (ah.e : Int), .int .i64 (kn : Int), .string wd, .int .i64 0] 122 (0, 0)) := by rw [← hW8, heap_setCell_same hH7]; rfl
        have hV9 : Upd [some w.heap.size] w5 W8 := by rw [← hW8]; exact hV8.setCell (.inl (by simp)) _
        rw [hW8]
        obtain ⟨W9, hW9⟩ : ∃ W, W8.setCell ⟨w.heap.size, 9, none⟩ (.int .i64 (ct : Int)) = W := ⟨_, rfl⟩
        have hH9 : W9.heap[w.heap.size]? = some (.cells #[.int .i64 (org : Int), .int .i64 (seq : Int), .int .i64 (ah.a : Int), .int .i64 (ah.b : Int), .int .i64 (ah.c : Int), .int .i64 (ah.d : Int), .int .i64 (ah.e : Int), .int .i64 (kn : Int), .string wd, .int .i64 (ct : Int)] 122 (0, 0)) := by rw [← hW9, heap_setCell_same hH8]; rfl
        have hV10 : Upd [some w.heap.size] w5 W9 := by rw [← hW9]; exact hV9.setCell (.inl (by simp)) _
        rw [hW9]
        clear hW0 hW1 hW2 hW3 hW4 hW5 hW6 hW7 hW8 hW9 hH0 hH1 hH2 hH3 hH4 hH5 hH6 hH7 hH8 hV0 hV1 hV2 hV3 hV4 hV5 hV6 hV7 hV8 hV9
        have hWd : W9.drew.heap[w.heap.size]? = some (.cells #[.int .i64 (org : Int), .int .i64 (seq : Int), .int .i64 (ah.a : Int), .int .i64 (ah.b : Int), .int .i64 (ah.c : Int), .int .i64 (ah.d : Int), .int .i64 (ah.e : Int), .int .i64 (kn : Int), .string wd, .int .i64 (ct : Int)] 122 (0, 0)) := hH9
        have HFI : Hid (Rb W9.drew q z r4 true ∧ Upd [some q] w W9.drew ∧ r4.length ≤ rest.length ∧ (bad = true → true = true) ∧ (true = false → r4.length < rest.length)) := ⟨HR5.out.1.upd (Upd.drew hV10) (by simp; omega) (by simp; omega), HR5.out.2.1.trans (Upd.drew hV10) (fun i hi => .inr (by simp at hi; omega)), HR5.out.2.2⟩
        clear hV10 a0 a1 a2 a3 a4 a5 a6 a7 a8 a9 fz co bc0 bc1 bc2 bc3 bc4 m0 m1 m2
        have n0 : W9.drew.cell? ⟨w.heap.size, 0, none⟩ = some (.int .i64 (org : Int)) := by rw [cell_of_heap hWd]; rfl
        have n1 : W9.drew.cell? ⟨w.heap.size, 1, none⟩ = some (.int .i64 (seq : Int)) := by rw [cell_of_heap hWd]; rfl
        have n2 : W9.drew.cell? ⟨w.heap.size, 2, none⟩ = some (.int .i64 (ah.a : Int)) := by rw [cell_of_heap hWd]; rfl
        have n3 : W9.drew.cell? ⟨w.heap.size, 3, none⟩ = some (.int .i64 (ah.b : Int)) := by rw [cell_of_heap hWd]; rfl
        have n4 : W9.drew.cell? ⟨w.heap.size, 4, none⟩ = some (.int .i64 (ah.c : Int)) := by rw [cell_of_heap hWd]; rfl
        have n5 : W9.drew.cell? ⟨w.heap.size, 5, none⟩ = some (.int .i64 (ah.d : Int)) := by rw [cell_of_heap hWd]; rfl
        have n6 : W9.drew.cell? ⟨w.heap.size, 6, none⟩ = some (.int .i64 (ah.e : Int)) := by rw [cell_of_heap hWd]; rfl
        have n7 : W9.drew.cell? ⟨w.heap.size, 7, none⟩ = some (.int .i64 (kn : Int)) := by rw [cell_of_heap hWd]; rfl
        have n8 : W9.drew.cell? ⟨w.heap.size, 8, none⟩ = some (.string wd) := by rw [cell_of_heap hWd]; rfl
        have n9 : W9.drew.cell? ⟨w.heap.size, 9, none⟩ = some (.int .i64 (ct : Int)) := by rw [cell_of_heap hWd]; rfl
        clear hWd hH9
        generalize W9.drew = Wd at *
        go_wp2
        exact bodyPost_ret (v := .agg #[.int .i64 (org : Int), .int .i64 (seq : Int), .int .i64 (ah.a : Int), .int .i64 (ah.b : Int), .int .i64 (ah.c : Int), .int .i64 (ah.d : Int), .int .i64 (ah.e : Int), .int .i64 (kn : Int), .string wd, .int .i64 (ct : Int)]) (by simp [results, Tryz.results107, go_sem, n0, n1, n2, n3, n4, n5, n6, n7, n8, n9]) rfl ⟨r4, true, HFH.out, HFI.out.1, HFI.out.2.1, HFI.out.2.2.1, fun _ => rfl, fun e => by simp at e⟩

end Go.Proofs.YtckmppkdpnhodaaGreatDoor
