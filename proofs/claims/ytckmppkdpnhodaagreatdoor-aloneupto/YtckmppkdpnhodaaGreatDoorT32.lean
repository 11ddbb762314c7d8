/-
  Contract of (*Log).Do.
-/
import Derived.Test.YtckmppkdpnhodaaGreatDoorT30
namespace Go.Proofs.YtckmppkdpnhodaaGreatDoor
set_option linter.unusedVariables false
set_option linter.unusedSimpArgs false
open Go.RowKit Go.Proofs

attribute [local go_sem ↓] Go.wp_at_zero Go.wp_at_succ

theorem C_reach {C : Array Value} {me L : Nat} {W : World} {rb : Nat} {T : TypeId} (h : W.heap[rb]? = some (.cells C T (0, 0))) (hr : ∀ j, j < 5 → C[5 + j]? = some (.int .i64 ((rc me j L : Nat) : Int))) : ∀ j, j < 5 → W.cell? ⟨rb, 5 + j, none⟩ = some (.int .i64 ((rc me j L : Nat) : Int)) := fun j hj => by rw [cell_of_heap h]; exact hr j hj

set_option maxRecDepth 100000 in
set_option maxHeartbeats 8000000 in
theorem logdo_any (rb me : Nat) (hme : me < 5) (log : List Cm) (h8 : log.length ≤ 8) (cm : Cm) (ev : Value) (C : Array Value) (T : TypeId) (w : World) (hrb : w.heap[rb]? = some (.cells C T (0, 0))) (h4 : C[4]? = some ev) (hr : ∀ j, j < 5 → C[5 + j]? = some (.int .i64 ((rc me j log.length : Nat) : Int)))
    (hrow : w.ownsRow 0 122 10 ev log.length (logCells me log)) (hne : ev.ownBlock ≠ some rb) :
    Calls Tryz.prog 49 #[.pointer (some ⟨rb, 4, none⟩), .int .i64 (me : Int), .agg #[.int .i64 (cm.k.num : Int), .string cm.word, .int .i64 (cm.count : Int)]] w fun e w' =>
      e = .returned (.agg #[.int .i64 (me : Int), .int .i64 ((log.length : Int) + 1), .int .i64 ((rc me 0 log.length : Nat) : Int), .int .i64 ((rc me 1 log.length : Nat) : Int), .int .i64 ((rc me 2 log.length : Nat) : Int), .int .i64 ((rc me 3 log.length : Nat) : Int), .int .i64 ((rc me 4 log.length : Nat) : Int), .int .i64 (cm.k.num : Int), .string cm.word, .int .i64 (cm.count : Int)]) ∧ ∃ g cap, w'.ownsRow 0 122 10 (.slice (some ⟨g, 0, none⟩) (log.length + 1) cap) (log.length + 1) (logCells me (log ++ [cm])) ∧ (ev.ownBlock = some g ∨ w.heap.size ≤ g) ∧ g ≠ rb ∧
        w'.heap[rb]? = some (.cells ((C.setIfInBounds 4 (.slice (some ⟨g, 0, none⟩) (log.length + 1) cap)).setIfInBounds (5 + me) (.int .i64 ((log.length : Int) + 1))) T (0, 0)) ∧ Upd [some rb, ev.ownBlock] w w' := by
  have hrl : rb < w.heap.size := (Array.getElem?_eq_some_iff.1 hrb).1
  have hel : ∀ b, ev.ownBlock = some b → b < w.heap.size := fun b hb => (hrow.lt b hb).2
  have hmm : rc me me log.length = log.length := by simp [rc]
  have HP : Hid (∀ W, Below w.heap.size w W → Calls Tryz.prog 88 #[.pointer (some ⟨rb, 4, none⟩), .agg #[.int .i64 (me : Int), .int .i64 ((log.length : Int) + 1), .int .i64 ((rc me 0 log.length : Nat) : Int), .int .i64 ((rc me 1 log.length : Nat) : Int), .int .i64 ((rc me 2 log.length : Nat) : Int), .int .i64 ((rc me 3 log.length : Nat) : Int), .int .i64 ((rc me 4 log.length : Nat) : Int), .int .i64 (cm.k.num : Int), .string cm.word, .int .i64 (cm.count : Int)]] W fun e w' =>
      e = .returned (.tuple #[]) ∧ ∃ g cap, w'.ownsRow 0 122 10 (.slice (some ⟨g, 0, none⟩) (log.length + 1) cap) (log.length + 1) (logCells me (log ++ [cm])) ∧ (ev.ownBlock = some g ∨ W.heap.size ≤ g) ∧ g ≠ rb ∧
        w'.heap[rb]? = some (.cells ((C.setIfInBounds 4 (.slice (some ⟨g, 0, none⟩) (log.length + 1) cap)).setIfInBounds (5 + me) (.int .i64 ((log.length : Int) + 1))) T (0, 0)) ∧ Upd [some rb, ev.ownBlock] W w') := fun W hW =>
    logput_any rb me hme log h8 cm ev C T W ((hW.block rb hrl).trans hrb) h4 (by rw [hr me hme, hmm]) ((Upd.of_below (S := []) hW).owns hrow (by simp)) hne
  have c0 : w.cell? ⟨rb, 5, none⟩ = some (.int .i64 ((rc me 0 log.length : Nat) : Int)) := C_reach hrb hr 0 (by omega)
  have c1 : w.cell? ⟨rb, 6, none⟩ = some (.int .i64 ((rc me 1 log.length : Nat) : Int)) := C_reach hrb hr 1 (by omega)
  have c2 : w.cell? ⟨rb, 7, none⟩ = some (.int .i64 ((rc me 2 log.length : Nat) : Int)) := C_reach hrb hr 2 (by omega)
  have c3 : w.cell? ⟨rb, 8, none⟩ = some (.int .i64 ((rc me 3 log.length : Nat) : Int)) := C_reach hrb hr 3 (by omega)
  have c4 : w.cell? ⟨rb, 9, none⟩ = some (.int .i64 ((rc me 4 log.length : Nat) : Int)) := C_reach hrb hr 4 (by omega)
  have cm5 : w.cell? ⟨rb, 5 + me, none⟩ = some (.int .i64 (log.length : Int)) := by rw [C_reach hrb hr me hme, hmm]
  clear hrow hrb h4 hr hmm
  have hmi0 : (0 : Int) ≤ (me : Int) := by omega
  have hmi5 : (me : Int) < 5 := by omega
  have hmi6 : (me : Int) ≤ 5 := by omega
  go_enter Tryz.func49, Tryz.ntmps49
  have hwr : IntKind.i64.wrap ((log.length : Int) + 1) = (log.length : Int) + 1 := by rw [IntKind.wrap_i64]; omega
  go_upto_region 1 with fail
  generalize hL : log.length = L at *
  generalize hr0 : ((rc me 0 L : Nat) : Int) = r0 at *
  generalize hr1 : ((rc me 1 L : Nat) : Int) = r1 at *
  generalize hr2 : ((rc me 2 L : Nat) : Int) = r2 at *
  generalize hr3 : ((rc me 3 L : Nat) : Int) = r3 at *
  generalize hr4 : ((rc me 4 L : Nat) : Int) = r4 at *
  obtain ⟨wa, hwa⟩ : ∃ wa, (w.alloc (.cells #[.int .i64 (cm.k.num : Int), .string cm.word, .int .i64 (cm.count : Int)] 116)).alloc (.cells #[.int .i64 0, .int .i64 0, .int .i64 0, .int .i64 0, .int .i64 0, .int .i64 0, .int .i64 0, .int .i64 0, .string ByteArray.empty, .int .i64 0] 122) = wa := ⟨_, rfl⟩
  have hba : Below w.heap.size w wa := by rw [← hwa]; exact ((Below.refl _ w).alloc (Nat.le_refl _) _).alloc (by simp) _
  have hea : wa.heap[w.heap.size]? = some (.cells #[.int .i64 (cm.k.num : Int), .string cm.word, .int .i64 (cm.count : Int)] 116 (0, 0)) := by rw [← hwa]; exact (Below.heap_alloc _ _ _ (by simp)).trans (heap_alloc_new w _)
  have hra : wa.heap[w.heap.size + 1]? = some (.cells #[.int .i64 0, .int .i64 0, .int .i64 0, .int .i64 0, .int .i64 0, .int .i64 0, .int .i64 0, .int .i64 0, .string ByteArray.empty, .int .i64 0] 122 (0, 0)) := by
    rw [← hwa]
    have := heap_alloc_new (w.alloc (.cells #[.int .i64 (cm.k.num : Int), .string cm.word, .int .i64 (cm.count : Int)] 116)) (.cells #[.int .i64 0, .int .i64 0, .int .i64 0, .int .i64 0, .int .i64 0, .int .i64 0, .int .i64 0, .int .i64 0, .string ByteArray.empty, .int .i64 0] 122)
    simpa only [World.size_alloc] using this
  have hsa : wa.heap.size = w.heap.size + 1 + 1 := by rw [← hwa]; simp
  have hwa' : (w.alloc (.cells #[.int .i64 (cm.k.num : Int), .string cm.word, .int .i64 (cm.count : Int)] 116)).alloc (.cells #[.int .i64 0, .int .i64 0, .int .i64 0, .int .i64 0, .int .i64 0, .int .i64 0, .int .i64 0, .int .i64 0, .string { data := #[] }, .int .i64 0] 122) = wa := hwa
  rw [hwa']
  clear hwa hwa'
  have HBA : Hid (Below w.heap.size w wa) := hba
  have HRA : Hid (wa.heap[w.heap.size + 1]? = some (.cells #[.int .i64 0, .int .i64 0, .int .i64 0, .int .i64 0, .int .i64 0, .int .i64 0, .int .i64 0, .int .i64 0, .string ByteArray.empty, .int .i64 0] 122 (0, 0))) := hra
  have a0 := cell_below hba c0
  have a1 := cell_below hba c1
  have a2 := cell_below hba c2
  have a3 := cell_below hba c3
  have a4 := cell_below hba c4
  have am := cell_below hba cm5
  have b0 : wa.cell? ⟨w.heap.size, 0, none⟩ = some (.int .i64 (cm.k.num : Int)) := by rw [cell_of_heap hea]; rfl
  have b1 : wa.cell? ⟨w.heap.size, 1, none⟩ = some (.string cm.word) := by rw [cell_of_heap hea]; rfl
  have b2 : wa.cell? ⟨w.heap.size, 2, none⟩ = some (.int .i64 (cm.count : Int)) := by rw [cell_of_heap hea]; rfl
  clear c0 c1 c2 c3 c4 cm5 hba hea hra
  generalize hb0 : w.heap.size = B at *
  have n0 : B ≠ wa.heap.size := by omega
  have n1 : rb ≠ wa.heap.size := by omega
  go_region_held3 (fun w' => w'.cell? ⟨rb, 5, none⟩ = some (.int .i64 r0) ∧ w'.cell? ⟨rb, 6, none⟩ = some (.int .i64 r1) ∧ w'.cell? ⟨rb, 7, none⟩ = some (.int .i64 r2) ∧ w'.cell? ⟨rb, 8, none⟩ = some (.int .i64 r3) ∧ w'.cell? ⟨rb, 9, none⟩ = some (.int .i64 r4) ∧ w'.cell? ⟨rb, 5 + me, none⟩ = some (.int .i64 (L : Int)) ∧ w'.cell? ⟨B, 0, none⟩ = some (.int .i64 (cm.k.num : Int)) ∧ w'.cell? ⟨B, 1, none⟩ = some (.string cm.word) ∧ w'.cell? ⟨B, 2, none⟩ = some (.int .i64 (cm.count : Int)))
    (first
      | exact ⟨a0, a1, a2, a3, a4, am, b0, b1, b2⟩
      | go_keep)
    (first
      | fail)
  obtain ⟨wv, hwv⟩ : ∃ wv, (wa.alloc (.cells #[.int .i64 (me : Int), .int .i64 ((L : Int) + 1), .int .i64 r0, .int .i64 r1, .int .i64 r2, .int .i64 r3, .int .i64 r4, .int .i64 (cm.k.num : Int), .string cm.word, .int .i64 (cm.count : Int)] 122)).drew = wv := ⟨_, rfl⟩
  have hbv : Below B w wv := by rw [← hwv]; exact (HBA.out.alloc (by omega) _).drew
  have hev : wv.heap[B + 1 + 1]? = some (.cells #[.int .i64 (me : Int), .int .i64 ((L : Int) + 1), .int .i64 r0, .int .i64 r1, .int .i64 r2, .int .i64 r3, .int .i64 r4, .int .i64 (cm.k.num : Int), .string cm.word, .int .i64 (cm.count : Int)] 122 (0, 0)) := by rw [← hwv, ← hsa]; exact heap_alloc_new wa _
  have hrv : wv.heap[B + 1]? = some (.cells #[.int .i64 0, .int .i64 0, .int .i64 0, .int .i64 0, .int .i64 0, .int .i64 0, .int .i64 0, .int .i64 0, .string ByteArray.empty, .int .i64 0] 122 (0, 0)) := by rw [← hwv]; exact (Below.heap_alloc wa _ (B + 1) (by omega)).trans HRA.out
  rw [hwv]
  rename_i hHeld
  clear hwv a0 a1 a2 a3 a4 am b0 b1 b2 n0 n1 hHeld
  have HPV := HP.out wv (by rw [← hb0] at hbv ⊢; exact hbv)
  have HPV' : Hid _ := HPV
  have hsv : B + 1 + 1 < wv.heap.size := (Array.getElem?_eq_some_iff.1 hev).1
  have HEV : Hid (wv.heap[B + 1 + 1]? = some (.cells #[.int .i64 (me : Int), .int .i64 ((L : Int) + 1), .int .i64 r0, .int .i64 r1, .int .i64 r2, .int .i64 r3, .int .i64 r4, .int .i64 (cm.k.num : Int), .string cm.word, .int .i64 (cm.count : Int)] 122 (0, 0))) := hev
  have HRV : Hid (wv.heap[B + 1]? = some (.cells #[.int .i64 0, .int .i64 0, .int .i64 0, .int .i64 0, .int .i64 0, .int .i64 0, .int .i64 0, .int .i64 0, .string ByteArray.empty, .int .i64 0] 122 (0, 0))) := hrv
  have HBV : Hid (Below B w wv) := hbv
  have e0 : wv.cell? ⟨B + 1 + 1, 0, none⟩ = some (.int .i64 (me : Int)) := by rw [cell_of_heap hev]; rfl
  have e1 : wv.cell? ⟨B + 1 + 1, 1, none⟩ = some (.int .i64 ((L : Int) + 1)) := by rw [cell_of_heap hev]; rfl
  have e2 : wv.cell? ⟨B + 1 + 1, 2, none⟩ = some (.int .i64 r0) := by rw [cell_of_heap hev]; rfl
  have e3 : wv.cell? ⟨B + 1 + 1, 3, none⟩ = some (.int .i64 r1) := by rw [cell_of_heap hev]; rfl
  have e4 : wv.cell? ⟨B + 1 + 1, 4, none⟩ = some (.int .i64 r2) := by rw [cell_of_heap hev]; rfl
  have e5 : wv.cell? ⟨B + 1 + 1, 5, none⟩ = some (.int .i64 r3) := by rw [cell_of_heap hev]; rfl
  have e6 : wv.cell? ⟨B + 1 + 1, 6, none⟩ = some (.int .i64 r4) := by rw [cell_of_heap hev]; rfl
  have e7 : wv.cell? ⟨B + 1 + 1, 7, none⟩ = some (.int .i64 (cm.k.num : Int)) := by rw [cell_of_heap hev]; rfl
  have e8 : wv.cell? ⟨B + 1 + 1, 8, none⟩ = some (.string cm.word) := by rw [cell_of_heap hev]; rfl
  have e9 : wv.cell? ⟨B + 1 + 1, 9, none⟩ = some (.int .i64 (cm.count : Int)) := by rw [cell_of_heap hev]; rfl
  have HK : Hid (∀ w2, Upd [some rb, ev.ownBlock] wv w2 → w2.heap[B + 1 + 1]? = some (.cells #[.int .i64 (me : Int), .int .i64 ((L : Int) + 1), .int .i64 r0, .int .i64 r1, .int .i64 r2, .int .i64 r3, .int .i64 r4, .int .i64 (cm.k.num : Int), .string cm.word, .int .i64 (cm.count : Int)] 122 (0, 0)) ∧ w2.heap[B + 1]? = some (.cells #[.int .i64 0, .int .i64 0, .int .i64 0, .int .i64 0, .int .i64 0, .int .i64 0, .int .i64 0, .int .i64 0, .string ByteArray.empty, .int .i64 0] 122 (0, 0))) := fun w2 hu => by
    have nn : ∀ b, B ≤ b → some b ∉ [some rb, ev.ownBlock] := fun b hb hm => by
      simp only [List.mem_cons, List.not_mem_nil, or_false, Option.some.injEq] at hm
      rcases hm with rfl | hm
      · omega
      · have := hel b hm.symm; omega
    exact ⟨(hu.block _ (by omega) (nn _ (by omega))).trans HEV.out, (hu.block _ (by omega) (nn _ (by omega))).trans HRV.out⟩
  have HK2 : Hid (∀ w2, Upd [some rb, ev.ownBlock] wv w2 → (w2.cell? ⟨B + 1 + 1, 0, none⟩ = some (.int .i64 (me : Int)) ∧ w2.cell? ⟨B + 1 + 1, 1, none⟩ = some (.int .i64 ((L : Int) + 1)) ∧ w2.cell? ⟨B + 1 + 1, 2, none⟩ = some (.int .i64 r0) ∧ w2.cell? ⟨B + 1 + 1, 3, none⟩ = some (.int .i64 r1) ∧ w2.cell? ⟨B + 1 + 1, 4, none⟩ = some (.int .i64 r2) ∧ w2.cell? ⟨B + 1 + 1, 5, none⟩ = some (.int .i64 r3) ∧ w2.cell? ⟨B + 1 + 1, 6, none⟩ = some (.int .i64 r4) ∧ w2.cell? ⟨B + 1 + 1, 7, none⟩ = some (.int .i64 (cm.k.num : Int)) ∧ w2.cell? ⟨B + 1 + 1, 8, none⟩ = some (.string cm.word) ∧ w2.cell? ⟨B + 1 + 1, 9, none⟩ = some (.int .i64 (cm.count : Int))) ∧ (∀ o, w2.frozen? ⟨B + 1, o, none⟩ = false) ∧ w2.cell? ⟨B + 1, 0, none⟩ = some (.int .i64 0) ∧ w2.cell? ⟨B + 1, 1, none⟩ = some (.int .i64 0) ∧ w2.cell? ⟨B + 1, 2, none⟩ = some (.int .i64 0) ∧ w2.cell? ⟨B + 1, 3, none⟩ = some (.int .i64 0) ∧ w2.cell? ⟨B + 1, 4, none⟩ = some (.int .i64 0) ∧ w2.cell? ⟨B + 1, 5, none⟩ = some (.int .i64 0) ∧ w2.cell? ⟨B + 1, 6, none⟩ = some (.int .i64 0) ∧ w2.cell? ⟨B + 1, 7, none⟩ = some (.int .i64 0) ∧ w2.cell? ⟨B + 1, 8, none⟩ = some (.string ByteArray.empty) ∧ w2.cell? ⟨B + 1, 9, none⟩ = some (.int .i64 0)) := fun w2 hu => by
    obtain ⟨h1, h2⟩ := HK.out w2 hu
    exact ⟨⟨by rw [cell_of_heap h1]; rfl, by rw [cell_of_heap h1]; rfl, by rw [cell_of_heap h1]; rfl, by rw [cell_of_heap h1]; rfl, by rw [cell_of_heap h1]; rfl, by rw [cell_of_heap h1]; rfl, by rw [cell_of_heap h1]; rfl, by rw [cell_of_heap h1]; rfl, by rw [cell_of_heap h1]; rfl, by rw [cell_of_heap h1]; rfl⟩, frozen_of_heap h2, by rw [cell_of_heap h2]; rfl, by rw [cell_of_heap h2]; rfl, by rw [cell_of_heap h2]; rfl, by rw [cell_of_heap h2]; rfl, by rw [cell_of_heap h2]; rfl, by rw [cell_of_heap h2]; rfl, by rw [cell_of_heap h2]; rfl, by rw [cell_of_heap h2]; rfl, by rw [cell_of_heap h2]; rfl, by rw [cell_of_heap h2]; rfl⟩
  clear hev hrv hbv HPV
  go_wp2_with (go_at_call 88; refine Calls.mono HPV'.out ?_; rintro e w2 ⟨rfl, g, cap, o1, o2, o3, o4, o5⟩; obtain ⟨⟨p0, p1, p2, p3, p4, p5, p6, p7, p8, p9⟩, pf, z0, z1, z2, z3, z4, z5, z6, z7, z8, z9⟩ := HK2.out w2 o5)
  obtain ⟨W7, hW7⟩ : ∃ W7, ((((((((((w2.setCell ⟨B + 1, 0, none⟩ (.int .i64 (me : Int))).setCell ⟨B + 1, 1, none⟩ (.int .i64 ((L : Int) + 1))).setCell ⟨B + 1, 2, none⟩ (.int .i64 r0)).setCell ⟨B + 1, 3, none⟩ (.int .i64 r1)).setCell ⟨B + 1, 4, none⟩ (.int .i64 r2)).setCell ⟨B + 1, 5, none⟩ (.int .i64 r3)).setCell ⟨B + 1, 6, none⟩ (.int .i64 r4)).setCell ⟨B + 1, 7, none⟩ (.int .i64 (cm.k.num : Int))).setCell ⟨B + 1, 8, none⟩ (.string cm.word)).setCell ⟨B + 1, 9, none⟩ (.int .i64 (cm.count : Int))) = W7 := ⟨_, rfl⟩
  have k7 : ∀ b, b ≠ B + 1 → W7.heap[b]? = w2.heap[b]? := fun b hne => by
    rw [← hW7, Below.heap_setCell _ _ _ _ hne, Below.heap_setCell _ _ _ _ hne, Below.heap_setCell _ _ _ _ hne, Below.heap_setCell _ _ _ _ hne, Below.heap_setCell _ _ _ _ hne, Below.heap_setCell _ _ _ _ hne, Below.heap_setCell _ _ _ _ hne, Below.heap_setCell _ _ _ _ hne, Below.heap_setCell _ _ _ _ hne, Below.heap_setCell _ _ _ _ hne]
  have h7 : W7.heap[B + 1]? = some (.cells #[.int .i64 (me : Int), .int .i64 ((L : Int) + 1), .int .i64 r0, .int .i64 r1, .int .i64 r2, .int .i64 r3, .int .i64 r4, .int .i64 (cm.k.num : Int), .string cm.word, .int .i64 (cm.count : Int)] 122 (0, 0)) := by
    rw [← hW7, (heap_setCell_same (heap_setCell_same (heap_setCell_same (heap_setCell_same (heap_setCell_same (heap_setCell_same (heap_setCell_same (heap_setCell_same (heap_setCell_same (heap_setCell_same (HK.out w2 o5).2 _) _) _) _) _) _) _) _) _) _)]
    simp
  have u7 : Upd [some rb, ev.ownBlock] w W7 := by
    have u2 : Upd [some rb, ev.ownBlock] w w2 := (Upd.of_below (by rw [hb0]; exact HBV.out)).trans o5 (fun i hi => .inl hi)
    rw [← hW7]
    exact ((((((((((u2.setCell (.inr (by show w.heap.size ≤ B + 1; omega)) _).setCell (.inr (by show w.heap.size ≤ B + 1; omega)) _).setCell (.inr (by show w.heap.size ≤ B + 1; omega)) _).setCell (.inr (by show w.heap.size ≤ B + 1; omega)) _).setCell (.inr (by show w.heap.size ≤ B + 1; omega)) _).setCell (.inr (by show w.heap.size ≤ B + 1; omega)) _).setCell (.inr (by show w.heap.size ≤ B + 1; omega)) _).setCell (.inr (by show w.heap.size ≤ B + 1; omega)) _).setCell (.inr (by show w.heap.size ≤ B + 1; omega)) _).setCell (.inr (by show w.heap.size ≤ B + 1; omega)) _)
  rw [hW7]
  clear hW7
  have y0 : W7.cell? ⟨B + 1, 0, none⟩ = some (.int .i64 (me : Int)) := by rw [cell_of_heap h7]; rfl
  have y1 : W7.cell? ⟨B + 1, 1, none⟩ = some (.int .i64 ((L : Int) + 1)) := by rw [cell_of_heap h7]; rfl
  have y2 : W7.cell? ⟨B + 1, 2, none⟩ = some (.int .i64 r0) := by rw [cell_of_heap h7]; rfl
  have y3 : W7.cell? ⟨B + 1, 3, none⟩ = some (.int .i64 r1) := by rw [cell_of_heap h7]; rfl
  have y4 : W7.cell? ⟨B + 1, 4, none⟩ = some (.int .i64 r2) := by rw [cell_of_heap h7]; rfl
  have y5 : W7.cell? ⟨B + 1, 5, none⟩ = some (.int .i64 r3) := by rw [cell_of_heap h7]; rfl
  have y6 : W7.cell? ⟨B + 1, 6, none⟩ = some (.int .i64 r4) := by rw [cell_of_heap h7]; rfl
  have y7 : W7.cell? ⟨B + 1, 7, none⟩ = some (.int .i64 (cm.k.num : Int)) := by rw [cell_of_heap h7]; rfl
  have y8 : W7.cell? ⟨B + 1, 8, none⟩ = some (.string cm.word) := by rw [cell_of_heap h7]; rfl
  have y9 : W7.cell? ⟨B + 1, 9, none⟩ = some (.int .i64 (cm.count : Int)) := by rw [cell_of_heap h7]; rfl
  have ow : W7.ownsRow 0 122 10 (.slice (some ⟨g, 0, none⟩) (L + 1) cap) (L + 1) (logCells me (log ++ [cm])) := by
    have hg : g ≠ B + 1 := by
      rcases o2 with h | h
      · have := hel g h; omega
      · omega
    refine ⟨o1.1, ?_⟩
    rcases o1.2 with hn | ⟨g', cap', cur, hv, hb, hh, rest⟩
    · exact .inl hn
    · obtain rfl : g = g' := by cases hv; rfl
      exact .inr ⟨g, cap', cur, hv, hb, (k7 g hg).trans hh, rest⟩
  have hfin : ev.ownBlock = some g ∨ w.heap.size ≤ g := by
    rcases o2 with h | h
    · exact .inl h
    · exact .inr (by omega)
  subst hr0 hr1 hr2 hr3 hr4 hL
  exact bodyPost_ret (v := .agg #[.int .i64 (me : Int), .int .i64 ((log.length : Int) + 1), .int .i64 ((rc me 0 log.length : Nat) : Int), .int .i64 ((rc me 1 log.length : Nat) : Int), .int .i64 ((rc me 2 log.length : Nat) : Int), .int .i64 ((rc me 3 log.length : Nat) : Int), .int .i64 ((rc me 4 log.length : Nat) : Int), .int .i64 (cm.k.num : Int), .string cm.word, .int .i64 (cm.count : Int)]) (by simp [results, Tryz.results49, go_sem, y0, y1, y2, y3, y4, y5, y6, y7, y8, y9]) rfl ⟨rfl, g, cap, ow, hfin, o3, (k7 rb (by omega)).trans o4, u7⟩




end Go.Proofs.YtckmppkdpnhodaaGreatDoor
