/-
  The reader of frames: head. The reader of frames: entry. wire.Read, where the frame was spoilt.
-/
import Derived.Test.YtckmppkdpnhodaaGreatDoorT28
import Derived.Test.YtckmppkdpnhodaaGreatDoorT25
namespace Go.Proofs.YtckmppkdpnhodaaGreatDoor
set_option linter.unusedVariables false
set_option linter.unusedSimpArgs false
open Go.RowKit Go.Proofs

attribute [local go_sem ↓] Go.wp_at_zero Go.wp_at_succ

theorem Rd.upd {w w' : World} {q z : Nat} {rest : List UInt8} {S : List (Option Nat)} (h : Rd w q z rest) (hu : Upd S w w') (hq : some q ∉ S) (hz : some z ∉ S) : Rd w' q z rest := by
  obtain ⟨off, cap, h1, h2, h3, h4, h5⟩ := h
  exact ⟨off, cap, by rw [hu.block q (Array.getElem?_eq_some_iff.1 h1).1 hq]; exact h1, h2, h3, h4, fun i x hx => hu.cell (h5 i x hx) hz⟩

theorem Rd.below {w w' : World} {q z : Nat} {rest : List UInt8} (h : Rd w q z rest) (hb : Below w.heap.size w w') : Rd w' q z rest := h.upd (Upd.of_below (S := []) hb) (by simp) (by simp)

set_option maxRecDepth 100000 in
set_option maxHeartbeats 4000000 in
theorem rheadG (w : World) (q z a b h : Nat) (hz : z < w.heap.size) (ha : a < 5) (hb : b < 5) (hh : h < 72057594037927936) (t : List UInt8) (hr : Rd w q z (headB a b h ++ t)) :
    Calls Tryz.prog 106 #[.pointer (some ⟨q, 0, none⟩)] w fun e w' => e = .returned (.agg #[.int .i64 (a : Int), .int .i64 (b : Int), .int .i64 (h : Int), .slice none 0 0]) ∧ Rd w' q z t ∧ Upd [some q] w w' := by
  have hql := hr.lt
  go_enter Tryz.func106, Tryz.ntmps106
  go_upto_region 1 with fail
  obtain ⟨wa, hwa⟩ : ∃ wa, w.alloc (.cells #[.int .i64 0, .int .i64 0, .int .i64 0, .slice none 0 0] 140) = wa := ⟨_, rfl⟩
  have hea : wa.heap[w.heap.size]? = some (.cells #[.int .i64 0, .int .i64 0, .int .i64 0, .slice none 0 0] 140 (0, 0)) := by rw [← hwa]; exact heap_alloc_new w _
  have HBA : Hid (Below w.heap.size w wa) := by show Below _ _ _; rw [← hwa]; exact (Below.refl _ w).alloc (Nat.le_refl _) _
  have hsa : wa.heap.size = w.heap.size + 1 := by rw [← hwa]; simp
  rw [hwa]
  clear hwa
  have HEA : Hid (wa.heap[w.heap.size]? = some (.cells #[.int .i64 0, .int .i64 0, .int .i64 0, .slice none 0 0] 140 (0, 0))) := hea
  have HA : Hid (Rd wa q z (UInt8.ofNat a :: (UInt8.ofNat b :: (numB h ++ t)))) := hr.below HBA.out
  have H1 : Hid (∀ W, Rd W q z (UInt8.ofNat a :: (UInt8.ofNat b :: (numB h ++ t))) → Calls Tryz.prog 145 #[.pointer (some ⟨q, 0, none⟩)] W fun e w' => e = .returned (.int .i64 (a : Int)) ∧ Rd w' q z (UInt8.ofNat b :: (numB h ++ t)) ∧ Upd [some q] W w') := fun W hW => replicaG q z a ha _ W hW
  have H2 : Hid (∀ W, Rd W q z (UInt8.ofNat b :: (numB h ++ t)) → Calls Tryz.prog 145 #[.pointer (some ⟨q, 0, none⟩)] W fun e w' => e = .returned (.int .i64 (b : Int)) ∧ Rd w' q z (numB h ++ t) ∧ Upd [some q] W w') := fun W hW => replicaG q z b hb _ W hW
  have H3 : Hid (∀ W, Rd W q z (numB h ++ t) → Upd [some q] wa W → Calls Tryz.prog 146 #[.pointer (some ⟨q, 0, none⟩)] W fun e w' => e = .returned (.int .i64 (h : Int)) ∧ w'.heap[w.heap.size]? = some (.cells #[.int .i64 0, .int .i64 0, .int .i64 0, .slice none 0 0] 140 (0, 0)) ∧ Rd w' q z t ∧ Upd [some q] wa w') := fun W hW hU => by
    refine (numberG q z h hh _ W hW).mono ?_
    rintro e w' ⟨h1, h2, h3⟩
    have h4 := hU.trans h3 fun i hi => .inl hi
    refine ⟨h1, ?_, h2, h4⟩
    rw [h4.block w.heap.size (by omega) (by simp; omega)]
    exact HEA.out
  clear hr hea
  go_upto_region 2 with (first
    | (go_at_call 145; refine (H2.out _ HW2.out.1).mono ?_; rintro e w3 ⟨rfl, hw3⟩; have HW3 : Hid (Rd w3 q z (numB h ++ t) ∧ Upd [some q] w2 w3) := hw3; clear hw3)
    | (go_at_call 145; refine (H1.out _ HA.out).mono ?_; rintro e w2 ⟨rfl, hw2⟩; have HW2 : Hid (Rd w2 q z (UInt8.ofNat b :: (numB h ++ t)) ∧ Upd [some q] wa w2) := hw2; clear hw2))
  have HU3 : Hid (Upd [some q] wa w3) := HW2.out.2.trans HW3.out.2 fun i hi => .inl hi
  go_wp2_with (go_at_call 146; refine (H3.out _ HW3.out.1 HU3.out).mono ?_; rintro e w4 ⟨rfl, hh4, hw4⟩; have HW4 : Hid (Rd w4 q z t ∧ Upd [some q] wa w4) := hw4; clear hw4; have g0 := cell_of_heap hh4 (o := 0); have g1 := cell_of_heap hh4 (o := 1); have g2 := cell_of_heap hh4 (o := 2); have g3 := cell_of_heap hh4 (o := 3); have gf := frozen_of_heap hh4; have HH4 : Hid (w4.heap[w.heap.size]? = some (.cells #[.int .i64 0, .int .i64 0, .int .i64 0, .slice none 0 0] 140 (0, 0))) := hh4; clear hh4)
  have HU4 : Hid (Upd [some q] w w4) := (Upd.of_below (S := [some q]) HBA.out).trans HW4.out.2 fun i hi => .inl hi
  obtain ⟨W, hW⟩ : ∃ W, W = (((w4.setCell ⟨w.heap.size, 0, none⟩ (.int .i64 (a : Int))).setCell ⟨w.heap.size, 1, none⟩ (.int .i64 (b : Int))).setCell ⟨w.heap.size, 2, none⟩ (.int .i64 (h : Int))).setCell ⟨w.heap.size, 3, none⟩ (.slice none 0 0) := ⟨_, rfl⟩
  rw [← hW]
  have hWh : W.heap[w.heap.size]? = some (.cells #[.int .i64 (a : Int), .int .i64 (b : Int), .int .i64 (h : Int), .slice none 0 0] 140 (0, 0)) := by
    rw [hW, heap_setCell_same (heap_setCell_same (heap_setCell_same (heap_setCell_same HH4.out _) _) _) _]
    rfl
  have hUW : Upd [some w.heap.size] w4 W := by
    rw [hW]
    exact ((((Upd.refl _ _).setCell (.inl (by simp)) _).setCell (.inl (by simp)) _).setCell (.inl (by simp)) _).setCell (.inl (by simp)) _
  have k0 := cell_of_heap hWh 0
  have k1 := cell_of_heap hWh 1
  have k2 := cell_of_heap hWh 2
  have k3 := cell_of_heap hWh 3
  clear g0 g1 g2 g3
  exact bodyPost_ret (v := .agg #[.int .i64 (a : Int), .int .i64 (b : Int), .int .i64 (h : Int), .slice none 0 0]) (by simp [results, Tryz.results106, go_sem, k0, k1, k2, k3]) rfl ⟨rfl, HW4.out.1.upd hUW (by simp; omega) (by simp; omega), HU4.out.trans hUW fun i hi => .inr (by simp at hi; omega)⟩

end Go.Proofs.YtckmppkdpnhodaaGreatDoor

namespace Go.Proofs.YtckmppkdpnhodaaGreatDoor
set_option linter.unusedVariables false
set_option linter.unusedSimpArgs false
open Go.RowKit Go.Proofs

attribute [local go_sem ↓] Go.wp_at_zero Go.wp_at_succ

/-- The numbers ahead from the j-th on, then T. -/
def restB (x : Rc) (T : List UInt8) : Nat → List UInt8
  | 0 => numB x.a ++ (numB x.b ++ (numB x.c ++ (numB x.d ++ (numB x.e ++ T))))
  | 1 => numB x.b ++ (numB x.c ++ (numB x.d ++ (numB x.e ++ T)))
  | 2 => numB x.c ++ (numB x.d ++ (numB x.e ++ T))
  | 3 => numB x.d ++ (numB x.e ++ T)
  | 4 => numB x.e ++ T
  | _ => T

theorem restB_step (x : Rc) (T : List UInt8) {j : Nat} (hj : j < 5) : restB x T j = numB (x.get j) ++ restB x T (j + 1) := by
  rcases (show j = 0 ∨ j = 1 ∨ j = 2 ∨ j = 3 ∨ j = 4 by omega) with rfl | rfl | rfl | rfl | rfl <;> rfl

theorem entB_rest (x : En) (t : List UInt8) : entB x ++ t = restB x.ah (UInt8.ofNat (textOf x.c).size :: ((textOf x.c).data.toList ++ t)) 0 := by
  simp [entB, aheadB, restB, List.range, List.range.loop, Rc.get]

/-- The first j numbers, nought behind. -/
def Rc.upto (x : Rc) (j : Nat) : Rc := ⟨if 0 < j then x.a else 0, if 1 < j then x.b else 0, if 2 < j then x.c else 0, if 3 < j then x.d else 0, if 4 < j then x.e else 0⟩
def Rc.cells (x : Rc) : Array Value := #[.int .i64 (x.a : Int), .int .i64 (x.b : Int), .int .i64 (x.c : Int), .int .i64 (x.d : Int), .int .i64 (x.e : Int)]

theorem Rc.upto_step (x : Rc) {j : Nat} (hj : j < 5) : (x.upto j).cells.setIfInBounds j (.int .i64 (x.get j : Int)) = (x.upto (j + 1)).cells := by
  rcases (show j = 0 ∨ j = 1 ∨ j = 2 ∨ j = 3 ∨ j = 4 by omega) with rfl | rfl | rfl | rfl | rfl <;> rfl

theorem Rc.cells_get (x : Rc) {j : Nat} (hj : j < 5) : x.cells[j]? = some (.int .i64 (x.get j : Int)) := by
  rcases (show j = 0 ∨ j = 1 ∨ j = 2 ∨ j = 3 ∨ j = 4 by omega) with rfl | rfl | rfl | rfl | rfl <;> rfl

set_option maxRecDepth 100000 in
set_option maxHeartbeats 8000000 in
theorem entryG (w : World) (q z : Nat) (x : En) (hz : z < w.heap.size) (hq0 : 0 < q) (hlt : x.ah.lt 72057594037927936) (hseq : x.seq = x.ah.get x.org + 1) (hrt : readC (textOf x.c) = some x.c) (hv : VerbsAt w) (t : List UInt8) (hr : Rd w q z (entB x ++ t)) :
    Calls Tryz.prog 107 #[.pointer (some ⟨q, 0, none⟩), .int .i64 (x.org : Int)] w fun e w' => e = .returned x.val ∧ Rd w' q z t ∧ Upd [some q] w w' := by
  have hql := hr.lt
  rw [entB_rest] at hr
  generalize hT : UInt8.ofNat (textOf x.c).size :: ((textOf x.c).data.toList ++ t) = T at *
  have HTT : Hid (UInt8.ofNat (textOf x.c).size :: ((textOf x.c).data.toList ++ t) = T) := hT
  clear hT
  unfold En.val
  go_enter Tryz.func107, Tryz.ntmps107
  go_upto_region 2 with fail
  obtain ⟨wa, hwa⟩ : ∃ wa, (w.alloc (.cells #[.int .i64 0, .int .i64 0, .int .i64 0, .int .i64 0, .int .i64 0, .int .i64 0, .int .i64 0, .int .i64 0, .string ⟨#[]⟩, .int .i64 0] 122)).alloc (.cells (x.ah.upto 0).cells 104) = wa := ⟨_, rfl⟩
  have HBA : Hid (Below w.heap.size w wa) := by show Below _ _ _; rw [← hwa]; exact ((Below.refl _ w).alloc (Nat.le_refl _) _).alloc (by simp) _
  have HE0 : Hid (wa.heap[w.heap.size]? = some (.cells #[.int .i64 0, .int .i64 0, .int .i64 0, .int .i64 0, .int .i64 0, .int .i64 0, .int .i64 0, .int .i64 0, .string ⟨#[]⟩, .int .i64 0] 122 (0, 0))) := by show _ = _; rw [← hwa, Below.heap_alloc _ _ _ (by simp)]; exact heap_alloc_new w _
  have HE1 : Hid (wa.heap[w.heap.size + 1]? = some (.cells (x.ah.upto 0).cells 104 (0, 0))) := by
    show _ = _
    rw [← hwa]
    have := heap_alloc_new (w.alloc (.cells #[.int .i64 0, .int .i64 0, .int .i64 0, .int .i64 0, .int .i64 0, .int .i64 0, .int .i64 0, .int .i64 0, .string ⟨#[]⟩, .int .i64 0] 122)) (.cells (x.ah.upto 0).cells 104)
    simpa only [World.size_alloc] using this
  have hsa : wa.heap.size = w.heap.size + 2 := by rw [← hwa]; simp
  rw [show (.cells #[.int .i64 0, .int .i64 0, .int .i64 0, .int .i64 0, .int .i64 0] 104 : Obj) = .cells (x.ah.upto 0).cells 104 from rfl, hwa]
  clear hwa
  have HA : Hid (Rd wa q z (restB x.ah T 0)) := hr.below HBA.out
  have HV : Hid (∀ W, Upd [some q] w W → VerbsAt W) := fun W hW k => hW.cell (hv k) (by simp; omega)
  clear hr hv
  go_wp2
  go_loopw [9] (fun i wr => ∃ j : Nat, j ≤ 5 ∧ i = .int .i64 j ∧ Hid (wr.heap[w.heap.size + 1]? = some (.cells (x.ah.upto j).cells 104 (0, 0)) ∧ Rd wr q z (restB x.ah T j) ∧ wr.heap[w.heap.size]? = wa.heap[w.heap.size]? ∧ Upd [some q] w wr ∧ w.heap.size + 2 ≤ wr.heap.size)) (fun i _ => 5 - (intOf i).toNat)
  case atStart => exact ⟨0, by omega, rfl, HE1.out, HA.out, rfl, Upd.of_below HBA.out, by omega⟩
  case round =>
    obtain ⟨j, hj, rfl, HI⟩ := hrel
    by_cases hj5 : j < 5
    · have hg := Rc.get_lt hlt (by omega) j
      have HN : Hid (Calls Tryz.prog 146 #[.pointer (some ⟨q, 0, none⟩)] wr fun e w' => e = .returned (.int .i64 (x.ah.get j : Int)) ∧ (∃ ov, w'.cell? ⟨w.heap.size + 1, j, none⟩ = some ov ∧ ov.oneCell' = true) ∧ w'.frozen? ⟨w.heap.size + 1, j, none⟩ = false ∧ w'.heap[w.heap.size + 1]? = some (.cells (x.ah.upto j).cells 104 (0, 0)) ∧ Rd w' q z (restB x.ah T (j + 1)) ∧ w'.heap[w.heap.size]? = wa.heap[w.heap.size]? ∧ Upd [some q] w w' ∧ w.heap.size + 2 ≤ w'.heap.size) := by
        obtain ⟨h1, h2, h3, h4, h5⟩ := HI.out
        rw [restB_step x.ah T hj5] at h2
        refine (numberG q z (x.ah.get j) hg _ wr h2).mono ?_
        rintro e w' ⟨e1, e2, e3⟩
        have hb1 : w'.heap[w.heap.size + 1]? = some (.cells (x.ah.upto j).cells 104 (0, 0)) := by rw [e3.block _ (by omega) (by simp; omega)]; exact h1
        refine ⟨e1, ⟨.int .i64 ((x.ah.upto j).get j : Int), ?_, rfl⟩, frozen_of_heap hb1 j, hb1, e2, ?_, h4.trans e3 fun i hi => .inl hi, by have := e3.size; omega⟩
        · rw [cell_of_heap hb1, Rc.cells_get _ hj5]
        · rw [e3.block _ (by omega) (by simp; omega)]; exact h3
      have e5 : ((j : Int) < 5) = True := by simp; omega
      have j0 : (0 : Int) ≤ (j : Int) := by omega
      have HS : Hid ((x.ah.upto j).cells.setIfInBounds j (.int .i64 (x.ah.get j : Int)) = (x.ah.upto (j + 1)).cells) := Rc.upto_step x.ah hj5
      clear hg
      generalize x.ah.get j = gj at *
      go_wp2_with (go_at_call 146; refine HN.out.mono ?_; rintro e w2 ⟨rfl, ⟨ov, hov, hov1⟩, hfz, hw2⟩; have HW2 : Hid (w2.heap[w.heap.size + 1]? = some (.cells (x.ah.upto j).cells 104 (0, 0)) ∧ Rd w2 q z (restB x.ah T (j + 1)) ∧ w2.heap[w.heap.size]? = wa.heap[w.heap.size]? ∧ Upd [some q] w w2 ∧ w.heap.size + 2 ≤ w2.heap.size) := hw2; clear hw2)
      go_roundw
      case rel =>
        obtain ⟨h1, h2, h3, h4, h5⟩ := HW2.out
        have hu : Upd [some (w.heap.size + 1)] w2 (w2.setCell ⟨w.heap.size + 1, j, none⟩ (.int .i64 (gj : Int))) := (Upd.refl _ _).setCell (.inl (by simp)) _
        refine ⟨j + 1, by omega, by simp, ?_, h2.upd hu (by simp; omega) (by simp; omega), ?_, h4.trans hu fun i hi => .inr (by simp at hi; omega), by have := hu.size; omega⟩
        · rw [heap_setCell_same h1, HS.out]
        · rw [hu.block _ (by omega) (by simp)]; exact h3
      case measure => simp [intOf]; omega
    · obtain rfl : j = 5 := by omega
      have e5 : (((5 : Nat) : Int) < 5) = False := by simp
      have hts := textOf_size x.hc
      have HT : Hid (Calls Tryz.prog 147 #[.pointer (some ⟨q, 0, none⟩)] wr fun e w' => e = .returned (.string (textOf x.c)) ∧ Rd w' q z t ∧ Upd [some q] wr w') := textG q z (textOf x.c) (by omega) t wr (by have := HI.out.2.1; rw [← HTT.out] at this; exact this)
      have HP : Hid (∀ W, Upd [some q] w W → Calls Tryz.prog 46 #[.string (textOf x.c)] W fun e w' => e = .returned (.tuple #[.agg #[.int .i64 (x.c.k.num : Int), .string x.c.word, .int .i64 (x.c.count : Int)], .bool true]) ∧ Below W.heap.size W w') := fun W hW => by
        refine (parse_any (textOf x.c) W (by unfold maxLen; omega) (HV.out W hW)).mono ?_
        rw [hrt]
        exact fun e w' h => h
      clear hrt
      generalize textOf x.c = tx at *
      go_upto_region 8 with (first
        | (go_at_call 46; refine (HP.out _ HW2.out.2).mono ?_; rintro e w3 ⟨rfl, hw3⟩; have HW3 : Hid (Below w2.heap.size w2 w3) := hw3; clear hw3)
        | (go_at_call 147; refine HT.out.mono ?_; rintro e w2 ⟨rfl, hw2⟩; have HW2 : Hid (Rd w2 q z t ∧ Upd [some q] w w2) := ⟨hw2.1, HI.out.2.2.2.1.trans hw2.2 fun i hi => .inl hi⟩; have HW2' : Hid (Upd [some q] wr w2) := hw2.2; clear hw2))
      obtain ⟨w4, hw4⟩ : ∃ w4, w3.alloc (.cells #[.int .i64 (x.c.k.num : Int), .string x.c.word, .int .i64 (x.c.count : Int)] 116) = w4 := ⟨_, rfl⟩
      obtain ⟨h1, h2, h3, h4, h5⟩ := HI.out
      have hs2 := HW2'.out.size
      have hs3 := HW3.out.size
      have hb4 : Below w3.heap.size w3 w4 := by rw [← hw4]; exact (Below.refl _ w3).alloc (Nat.le_refl _) _
      have h7 : w4.heap[w3.heap.size]? = some (.cells #[.int .i64 (x.c.k.num : Int), .string x.c.word, .int .i64 (x.c.count : Int)] 116 (0, 0)) := by rw [← hw4]; exact heap_alloc_new w3 _
      have hu4 : Upd [some q] wr w4 := (HW2'.out.below HW3.out).below hb4
      have k1 : w4.heap[w.heap.size + 1]? = some (.cells x.ah.cells 104 (0, 0)) := by rw [hu4.block _ (by omega) (by simp; omega), h1]; rfl
      have k0 : w4.heap[w.heap.size]? = some (.cells #[.int .i64 0, .int .i64 0, .int .i64 0, .int .i64 0, .int .i64 0, .int .i64 0, .int .i64 0, .int .i64 0, .string ⟨#[]⟩, .int .i64 0] 122 (0, 0)) := by rw [hu4.block _ (by omega) (by simp; omega), h3]; exact HE0.out
      have HR4 : Hid (Rd w4 q z t ∧ Upd [some q] w w4 ∧ w.heap.size + 2 ≤ w4.heap.size) := ⟨(HW2.out.1.below HW3.out).below hb4, h4.trans hu4 (fun i hi => .inl hi), by have := hb4.size; omega⟩
      rw [hw4]
      have hne : w.heap.size + 2 ≤ w3.heap.size := by omega
      have hog := x.ho
      have o0 : (0 : Int) ≤ (x.org : Int) := by omega
      have o5 : (x.org : Int) < 5 := by omega
      have hsq : ((x.ah.get x.org : Nat) : Int) + 1 = (x.seq : Int) := by omega
      have hgl := Rc.get_lt hlt (by omega) x.org
      have co : w4.cell? ⟨w.heap.size + 1, x.org, none⟩ = some (.int .i64 (x.ah.get x.org : Int)) := by rw [cell_of_heap k1, Rc.cells_get _ hog]
      have b0 : w4.cell? ⟨w.heap.size + 1, 0, none⟩ = some (.int .i64 (x.ah.a : Int)) := by rw [cell_of_heap k1]; rfl
      have b1 : w4.cell? ⟨w.heap.size + 1, 1, none⟩ = some (.int .i64 (x.ah.b : Int)) := by rw [cell_of_heap k1]; rfl
      have b2 : w4.cell? ⟨w.heap.size + 1, 2, none⟩ = some (.int .i64 (x.ah.c : Int)) := by rw [cell_of_heap k1]; rfl
      have b3 : w4.cell? ⟨w.heap.size + 1, 3, none⟩ = some (.int .i64 (x.ah.d : Int)) := by rw [cell_of_heap k1]; rfl
      have b4 : w4.cell? ⟨w.heap.size + 1, 4, none⟩ = some (.int .i64 (x.ah.e : Int)) := by rw [cell_of_heap k1]; rfl
      have m0 : w4.cell? ⟨w3.heap.size, 0, none⟩ = some (.int .i64 (x.c.k.num : Int)) := by rw [cell_of_heap h7]; rfl
      have m1 : w4.cell? ⟨w3.heap.size, 1, none⟩ = some (.string x.c.word) := by rw [cell_of_heap h7]; rfl
      have m2 : w4.cell? ⟨w3.heap.size, 2, none⟩ = some (.int .i64 (x.c.count : Int)) := by rw [cell_of_heap h7]; rfl
      have a0 : w4.cell? ⟨w.heap.size, 0, none⟩ = some (.int .i64 0) := by rw [cell_of_heap k0]; rfl
      have a1 : w4.cell? ⟨w.heap.size, 1, none⟩ = some (.int .i64 0) := by rw [cell_of_heap k0]; rfl
      have a2 : w4.cell? ⟨w.heap.size, 2, none⟩ = some (.int .i64 0) := by rw [cell_of_heap k0]; rfl
      have a3 : w4.cell? ⟨w.heap.size, 3, none⟩ = some (.int .i64 0) := by rw [cell_of_heap k0]; rfl
      have a4 : w4.cell? ⟨w.heap.size, 4, none⟩ = some (.int .i64 0) := by rw [cell_of_heap k0]; rfl
      have a5 : w4.cell? ⟨w.heap.size, 5, none⟩ = some (.int .i64 0) := by rw [cell_of_heap k0]; rfl
      have a6 : w4.cell? ⟨w.heap.size, 6, none⟩ = some (.int .i64 0) := by rw [cell_of_heap k0]; rfl
      have a7 : w4.cell? ⟨w.heap.size, 7, none⟩ = some (.int .i64 0) := by rw [cell_of_heap k0]; rfl
      have a8 : w4.cell? ⟨w.heap.size, 8, none⟩ = some (.string ⟨#[]⟩) := by rw [cell_of_heap k0]; rfl
      have a9 : w4.cell? ⟨w.heap.size, 9, none⟩ = some (.int .i64 0) := by rw [cell_of_heap k0]; rfl
      have fz : ∀ o, w4.frozen? ⟨w.heap.size, o, none⟩ = false := frozen_of_heap k0
      have HK0 : Hid (w4.heap[w.heap.size]? = some (.cells #[.int .i64 0, .int .i64 0, .int .i64 0, .int .i64 0, .int .i64 0, .int .i64 0, .int .i64 0, .int .i64 0, .string ⟨#[]⟩, .int .i64 0] 122 (0, 0))) := k0
      clear h1 h2 h3 h4 h5 hs2 hs3 hb4 h7 hu4 k1 k0 hw4 HW2 HW2' HW3 HT HP hts hlt hseq
      go_upto_region 10 with fail
      go_region
      have hV0 : Upd [some w.heap.size] w4 w4 := Upd.refl _ _
      obtain ⟨W0, hW0⟩ : ∃ W, w4.setCell ⟨w.heap.size, 0, none⟩ (.int .i64 (x.org : Int)) = W := ⟨_, rfl⟩
      have hH0 : W0.heap[w.heap.size]? = some (.cells #[.int .i64 (x.org : Int), .int .i64 0, .int .i64 0, .int .i64 0, .int .i64 0, .int .i64 0, .int .i64 0, .int .i64 0, .string ⟨#[]⟩, .int .i64 0] 122 (0, 0)) := by rw [← hW0, heap_setCell_same HK0.out]; rfl
      have hV1 : Upd [some w.heap.size] w4 W0 := by rw [← hW0]; exact hV0.setCell (.inl (by simp)) _
      rw [hW0]
      obtain ⟨W1, hW1⟩ : ∃ W, W0.setCell ⟨w.heap.size, 1, none⟩ (.int .i64 (x.seq : Int)) = W := ⟨_, rfl⟩
      have hH1 : W1.heap[w.heap.size]? = some (.cells #[.int .i64 (x.org : Int), .int .i64 (x.seq : Int), .int .i64 0, .int .i64 0, .int .i64 0, .int .i64 0, .int .i64 0, .int .i64 0, .string ⟨#[]⟩, .int .i64 0] 122 (0, 0)) := by rw [← hW1, heap_setCell_same hH0]; rfl
      have hV2 : Upd [some w.heap.size] w4 W1 := by rw [← hW1]; exact hV1.setCell (.inl (by simp)) _
      rw [hW1]
      obtain ⟨W2, hW2⟩ : ∃ W, W1.setCell ⟨w.heap.size, 2, none⟩ (.int .i64 (x.ah.a : Int)) = W := ⟨_, rfl⟩
      have hH2 : W2.heap[w.heap.size]? = some (.cells #[.int .i64 (x.org : Int), .int .i64 (x.seq : Int), .int .i64 (x.ah.a : Int), .int .i64 0, .int .i64 0, .int .i64 0, .int .i64 0, .int .i64 0, .string ⟨#[]⟩, .int .i64 0] 122 (0, 0)) := by rw [← hW2, heap_setCell_same hH1]; rfl
      have hV3 : Upd [some w.heap.size] w4 W2 := by rw [← hW2]; exact hV2.setCell (.inl (by simp)) _
      rw [hW2]
      obtain ⟨W3, hW3⟩ : ∃ W, W2.setCell ⟨w.heap.size, 3, none⟩ (.int .i64 (x.ah.b : Int)) = W := ⟨_, rfl⟩
      have hH3 : W3.heap[w.heap.size]? = some (.cells #[.int .i64 (x.org : Int), .int .i64 (x.seq : Int), .int .i64 (x.ah.a : Int), .int .i64 (x.ah.b : Int), .int .i64 0, .int .i64 0, .int .i64 0, .int .i64 0, .string ⟨#[]⟩, .int .i64 0] 122 (0, 0)) := by rw [← hW3, heap_setCell_same hH2]; rfl
      have hV4 : Upd [some w.heap.size] w4 W3 := by rw [← hW3]; exact hV3.setCell (.inl (by simp)) _
      rw [hW3]
      obtain ⟨W4, hW4⟩ : ∃ W, W3.setCell ⟨w.heap.size, 4, none⟩ (.int .i64 (x.ah.c : Int)) = W := ⟨_, rfl⟩
      have hH4 : W4.heap[w.heap.size]? = some (.cells #[.int .i64 (x.org : Int), .int .i64 (x.seq : Int), .int .i64 (x.ah.a : Int), .int .i64 (x.ah.b : Int), .int .i64 (x.ah.c : Int), .int .i64 0, .int .i64 0, .int .i64 0, .string ⟨#[]⟩, .int .i64 0] 122 (0, 0)) := by rw [← hW4, heap_setCell_same hH3]; rfl
      have hV5 : Upd [some w.heap.size] w4 W4 := by rw [← hW4]; exact hV4.setCell (.inl (by simp)) _
      rw [hW4]
      obtain ⟨W5, hW5⟩ : ∃ W, W4.setCell ⟨w.heap.size, 5, none⟩ (.int .i64 (x.ah.d : Int)) = W := ⟨_, rfl⟩
      have hH5 : W5.heap[w.heap.size]? = some (.cells #[.int .i64 (x.org : Int), .int .i64 (x.seq : Int), .int .i64 (x.ah.a : Int), .int .i64 (x.ah.b : Int), .int .i64 (x.ah.c : Int), .int .i64 (x.ah.d : Int), .int .i64 0, .int .i64 0, .string ⟨#[]⟩, .int .i64 0] 122 (0, 0)) := by rw [← hW5, heap_setCell_same hH4]; rfl
      have hV6 : Upd [some w.heap.size] w4 W5 := by rw [← hW5]; exact hV5.setCell (.inl (by simp)) _
      rw [hW5]
      obtain ⟨W6, hW6⟩ : ∃ W, W5.setCell ⟨w.heap.size, 6, none⟩ (.int .i64 (x.ah.e : Int)) = W := ⟨_, rfl⟩
      have hH6 : W6.heap[w.heap.size]? = some (.cells #[.int .i64 (x.org : Int), .int .i64 (x.seq : Int), .int .i64 (x.ah.a : Int), .int .i64 (x.ah.b : Int), .int .i64 (x.ah.c : Int), .int .i64 (x.ah.d : Int), .int .i64 (x.ah.e : Int), .int .i64 0, .string ⟨#[]⟩, .int .i64 0] 122 (0, 0)) := by rw [← hW6, heap_setCell_same hH5]; rfl
      have hV7 : Upd [some w.heap.size] w4 W6 := by rw [← hW6]; exact hV6.setCell (.inl (by simp)) _
      rw [hW6]
      obtain ⟨W7, hW7⟩ : ∃ W, W6.setCell ⟨w.heap.size, 7, none⟩ (.int .i64 (x.c.k.num : Int)) = W := ⟨_, rfl⟩
      have hH7 : W7.heap[w.heap.size]? = some (.cells #[.int .i64 (x.org : Int), .int .i64 (x.seq : Int), .int .i64 (x.ah.a : Int), .int .i64 (x.ah.b : Int), .int .i64 (x.ah.c : Int), .int .i64 (x.ah.d : Int), .int .i64 (x.ah.e : Int), .int .i64 (x.c.k.num : Int), .string ⟨#[]⟩, .int .i64 0] 122 (0, 0)) := by rw [← hW7, heap_setCell_same hH6]; rfl
      have hV8 : Upd [some w.heap.size] w4 W7 := by rw [← hW7]; exact hV7.setCell (.inl (by simp)) _
      rw [hW7]
      obtain ⟨W8, hW8⟩ : ∃ W, W7.setCell ⟨w.heap.size, 8, none⟩ (.string x.c.word) = W := ⟨_, rfl⟩
      have hH8 : W8.heap[w.heap.size]? = some (.cells #[.int .i64 (x.org : Int), .int .i64 (x.seq : Int), .int .i64 (x.ah.a : Int), .int .i64 (x.ah.b : Int), .int .i64 (x.ah.c : Int), .int .i64 (x.ah.d : Int), .int .i64 (x.ah.e : Int), .int .i64 (x.c.k.num : Int), .string x.c.word, .int .i64 0] 122 (0, 0)) := by rw [← hW8, heap_setCell_same hH7]; rfl
      have hV9 : Upd [some w.heap.size] w4 W8 := by rw [← hW8]; exact hV8.setCell (.inl (by simp)) _
      rw [hW8]
      obtain ⟨W9, hW9⟩ : ∃ W, W8.setCell ⟨w.heap.size, 9, none⟩ (.int .i64 (x.c.count : Int)) = W := ⟨_, rfl⟩
      have hH9 : W9.heap[w.heap.size]? = some (.cells #[.int .i64 (x.org : Int), .int .i64 (x.seq : Int), .int .i64 (x.ah.a : Int), .int .i64 (x.ah.b : Int), .int .i64 (x.ah.c : Int), .int .i64 (x.ah.d : Int), .int .i64 (x.ah.e : Int), .int .i64 (x.c.k.num : Int), .string x.c.word, .int .i64 (x.c.count : Int)] 122 (0, 0)) := by rw [← hW9, heap_setCell_same hH8]; rfl
      have hV10 : Upd [some w.heap.size] w4 W9 := by rw [← hW9]; exact hV9.setCell (.inl (by simp)) _
      rw [hW9]
      clear hW0 hW1 hW2 hW3 hW4 hW5 hW6 hW7 hW8 hW9 hH0 hH1 hH2 hH3 hH4 hH5 hH6 hH7 hH8 hV0 hV1 hV2 hV3 hV4 hV5 hV6 hV7 hV8 hV9
      have hWd : W9.drew.heap[w.heap.size]? = some (.cells #[.int .i64 (x.org : Int), .int .i64 (x.seq : Int), .int .i64 (x.ah.a : Int), .int .i64 (x.ah.b : Int), .int .i64 (x.ah.c : Int), .int .i64 (x.ah.d : Int), .int .i64 (x.ah.e : Int), .int .i64 (x.c.k.num : Int), .string x.c.word, .int .i64 (x.c.count : Int)] 122 (0, 0)) := hH9
      have HF : Hid (Rd W9.drew q z t ∧ Upd [some q] w W9.drew) := ⟨HR4.out.1.upd (Upd.drew hV10) (by simp; omega) (by simp; omega), HR4.out.2.1.trans (Upd.drew hV10) fun i hi => .inr (by simp at hi; omega)⟩
      clear hV10 a0 a1 a2 a3 a4 a5 a6 a7 a8 a9 fz co b0 b1 b2 b3 b4 m0 m1 m2
      have n0 : W9.drew.cell? ⟨w.heap.size, 0, none⟩ = some (.int .i64 (x.org : Int)) := by rw [cell_of_heap hWd]; rfl
      have n1 : W9.drew.cell? ⟨w.heap.size, 1, none⟩ = some (.int .i64 (x.seq : Int)) := by rw [cell_of_heap hWd]; rfl
      have n2 : W9.drew.cell? ⟨w.heap.size, 2, none⟩ = some (.int .i64 (x.ah.a : Int)) := by rw [cell_of_heap hWd]; rfl
      have n3 : W9.drew.cell? ⟨w.heap.size, 3, none⟩ = some (.int .i64 (x.ah.b : Int)) := by rw [cell_of_heap hWd]; rfl
      have n4 : W9.drew.cell? ⟨w.heap.size, 4, none⟩ = some (.int .i64 (x.ah.c : Int)) := by rw [cell_of_heap hWd]; rfl
      have n5 : W9.drew.cell? ⟨w.heap.size, 5, none⟩ = some (.int .i64 (x.ah.d : Int)) := by rw [cell_of_heap hWd]; rfl
      have n6 : W9.drew.cell? ⟨w.heap.size, 6, none⟩ = some (.int .i64 (x.ah.e : Int)) := by rw [cell_of_heap hWd]; rfl
      have n7 : W9.drew.cell? ⟨w.heap.size, 7, none⟩ = some (.int .i64 (x.c.k.num : Int)) := by rw [cell_of_heap hWd]; rfl
      have n8 : W9.drew.cell? ⟨w.heap.size, 8, none⟩ = some (.string x.c.word) := by rw [cell_of_heap hWd]; rfl
      have n9 : W9.drew.cell? ⟨w.heap.size, 9, none⟩ = some (.int .i64 (x.c.count : Int)) := by rw [cell_of_heap hWd]; rfl
      clear hWd hH9
      generalize W9.drew = Wd at *
      go_wp2
      exact bodyPost_ret (v := .agg #[.int .i64 (x.org : Int), .int .i64 (x.seq : Int), .int .i64 (x.ah.a : Int), .int .i64 (x.ah.b : Int), .int .i64 (x.ah.c : Int), .int .i64 (x.ah.d : Int), .int .i64 (x.ah.e : Int), .int .i64 (x.c.k.num : Int), .string x.c.word, .int .i64 (x.c.count : Int)]) (by simp [results, Tryz.results107, go_sem, n0, n1, n2, n3, n4, n5, n6, n7, n8, n9]) rfl ⟨rfl, HF.out⟩

end Go.Proofs.YtckmppkdpnhodaaGreatDoor

namespace Go.Proofs.YtckmppkdpnhodaaGreatDoor
set_option linter.unusedVariables false
set_option linter.unusedSimpArgs false
open Go.RowKit Go.Proofs

attribute [local go_sem ↓] Go.wp_at_zero Go.wp_at_succ

set_option maxRecDepth 100000 in
set_option maxHeartbeats 4000000 in
theorem readG_bad (p : Option Addr) (cap : Nat) (f : List UInt8) (hcap : f.length ≤ cap) (hfl : f.length ≤ 1000000000) (hm : cap ≤ 9223372036854775807) (w : World) (hb : BytesAt w (.slice p f.length cap) f) (hR : RemAt w) (hG : 1 < w.heap.size) (hok : okB f = false) :
    Calls Tryz.prog 59 #[.slice p f.length cap] w fun e w' => e = .returned (.tuple #[.agg #[.int .i64 0, .int .i64 0, .int .i64 0, .slice none 0 0], .bool false]) ∧ Below w.heap.size w w' := by
  go_enter Tryz.func59, Tryz.ntmps59
  go_upto_region 1 with fail
  obtain ⟨wa, hwa⟩ : ∃ wa, w.alloc (.cells #[.int .i64 0, .int .i64 0, .int .i64 0, .slice none 0 0] 140) = wa := ⟨_, rfl⟩
  have hea : wa.heap[w.heap.size]? = some (.cells #[.int .i64 0, .int .i64 0, .int .i64 0, .slice none 0 0] 140 (0, 0)) := by rw [← hwa]; exact heap_alloc_new w _
  have HBA : Hid (Below w.heap.size w wa) := by show Below _ _ _; rw [← hwa]; exact (Below.refl _ w).alloc (Nat.le_refl _) _
  have hsa : wa.heap.size = w.heap.size + 1 := by rw [← hwa]; simp
  rw [hwa]
  clear hwa
  have HU : Hid (Calls Tryz.prog 105 #[.slice p f.length cap] wa fun e w' => ∃ v, e = .returned (.tuple #[v, .bool false]) ∧ w'.heap[w.heap.size]? = some (.cells #[.int .i64 0, .int .i64 0, .int .i64 0, .slice none 0 0] 140 (0, 0)) ∧ Below w.heap.size w w') := by
    refine (unsealG p cap f hcap hfl hm wa ?_ (fun i hi => (HBA.out.cell (p := ⟨1, i, none⟩) hG).trans (hR i hi)) (by omega)).mono ?_
    · obtain ⟨p', c', h1, h2⟩ := hb
      exact ⟨p', c', h1, fun i x hx => by obtain ⟨b', o', h3, h4⟩ := h2 i x hx; exact ⟨b', o', h3, cell_below HBA.out h4⟩⟩
    · rintro e w' ⟨v, h1, -, h3⟩
      rw [hok] at h1
      exact ⟨v, h1, by rw [h3.block _ (by omega)]; exact hea, HBA.out.trans (h3.mono (by omega))⟩
  clear hb hR hea
  go_wp2_with (go_at_call 105; refine HU.out.mono ?_; rintro e w2 ⟨v, rfl, hh4, hw2⟩; have HW2 : Hid (Below w.heap.size w w2) := hw2; clear hw2; have g0 := cell_of_heap hh4 0; have g1 := cell_of_heap hh4 1; have g2 := cell_of_heap hh4 2; have g3 := cell_of_heap hh4 3; have gf := frozen_of_heap hh4; clear hh4)
  exact bodyPost_ret (v := .tuple #[.agg #[.int .i64 0, .int .i64 0, .int .i64 0, .slice none 0 0], .bool false]) (by simp [results, Tryz.results59, go_sem, g0, g1, g2, g3]) rfl ⟨rfl, (((HW2.out.setCell (by simp) _).setCell (by simp) _).setCell (by simp) _).setCell (by simp) _⟩

end Go.Proofs.YtckmppkdpnhodaaGreatDoor
