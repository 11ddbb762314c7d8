/-
  Contract of (*Log).put, entries of whatever replica. Contract of (*Log).Do, entries of whatever replica.
-/
import Derived.Test.YtckmppkdpnhodaaGreatDoorT13
import Derived.Test.YtckmppkdpnhodaaGreatDoorT05
import Derived.Deep.RegionLaw
import Derived.Test.YtckmppkdpnhodaaGreatDoorT11
namespace Go.Proofs.YtckmppkdpnhodaaGreatDoor
set_option linter.unusedVariables false
set_option linter.unusedSimpArgs false
open Go.RowKit Go.Proofs

attribute [local go_sem ↓] Go.wp_at_zero Go.wp_at_succ

set_option maxRecDepth 100000 in
set_option maxHeartbeats 8000000 in
theorem logputG (rb : Nat) (log : List En) (h8 : log.length ≤ 4294967296) (x : En) (ev : Value) (C : Array Value) (T : TypeId) (w : World) (hrb : w.heap[rb]? = some (.cells C T (0, 0))) (h4 : C[4]? = some ev) (rv : Nat) (h5 : C[5 + x.org]? = some (.int .i64 (rv : Int)))
    (hrow : w.ownsRow 0 122 10 ev log.length (enRow log)) (hne : ev.ownBlock ≠ some rb) :
    Calls Tryz.prog 88 #[.pointer (some ⟨rb, 4, none⟩), .agg #[.int .i64 (x.org : Int), .int .i64 (x.seq : Int), .int .i64 (x.ah.a : Int), .int .i64 (x.ah.b : Int), .int .i64 (x.ah.c : Int), .int .i64 (x.ah.d : Int), .int .i64 (x.ah.e : Int), .int .i64 (x.c.k.num : Int), .string x.c.word, .int .i64 (x.c.count : Int)]] w fun e w' =>
      e = .returned (.tuple #[]) ∧ ∃ g cap, w'.ownsRow 0 122 10 (.slice (some ⟨g, 0, none⟩) (log.length + 1) cap) (log.length + 1) (enRow (log ++ [x])) ∧ (ev.ownBlock = some g ∨ w.heap.size ≤ g) ∧ g ≠ rb ∧
        w'.heap[rb]? = some (.cells ((C.setIfInBounds 4 (.slice (some ⟨g, 0, none⟩) (log.length + 1) cap)).setIfInBounds (5 + x.org) (.int .i64 (x.seq : Int))) T (0, 0)) ∧ Upd [some rb, ev.ownBlock] w w' := by
  obtain ⟨pe, cape, hev⟩ : ∃ p c, ev = .slice p log.length c := by
    rcases hrow.2 with ⟨h1, h0⟩ | ⟨g, cap', _, h1, _⟩
    · rw [h0]; exact ⟨_, _, h1⟩
    · exact ⟨_, _, h1⟩
  obtain ⟨i3, hi3, hy0, hy1, hy2⟩ := info_parts Tryz.info_entry
  have hrl : rb < w.heap.size := (Array.getElem?_eq_some_iff.1 hrb).1
  have c4 : w.cell? ⟨rb, 4, none⟩ = some (.slice pe log.length cape) := by rw [cell_of_heap hrb, h4, hev]
  have hog := x.ho
  have c5 : w.cell? ⟨rb, 5 + x.org, none⟩ = some (.int .i64 (rv : Int)) := by rw [cell_of_heap hrb, h5]
  have fz : ∀ o, w.frozen? ⟨rb, o, none⟩ = false := frozen_of_heap hrb
  have HE : Hid (ev = .slice pe log.length cape) := hev
  have HC5 : Hid (C[5 + x.org]? = some (.int .i64 (rv : Int))) := h5
  have HRB : Hid (w.heap[rb]? = some (.cells C T (0, 0))) := hrb
  have HL : Hid (enRow (log ++ [x]) = enRow log ++ [.int .i64 (x.org : Int), .int .i64 (x.seq : Int), .int .i64 (x.ah.a : Int), .int .i64 (x.ah.b : Int), .int .i64 (x.ah.c : Int), .int .i64 (x.ah.d : Int), .int .i64 (x.ah.e : Int), .int .i64 (x.c.k.num : Int), .string x.c.word, .int .i64 (x.c.count : Int)]) := enRow_snoc log x
  rw [hev] at hrow hne
  have HR : Hid (w.ownsRow 0 122 10 (.slice pe log.length cape) log.length (enRow log)) := hrow
  clear hrow hev hrb h4 h5
  go_enter Tryz.func88, Tryz.ntmps88
  go_upto_region 1 with fail
  generalize hL : log.length = L at *
  generalize hme : x.org = me at *
  generalize hsq : x.seq = sq at *
  have HME : Hid (x.org = me) := hme
  have HSQ : Hid (x.seq = sq) := hsq
  clear hme hsq
  generalize x.c.k.num = kn at *
  generalize x.c.word = wd at *
  generalize x.c.count = cn at *
  generalize ((x.ah.a : Nat) : Int) = r0 at *
  generalize ((x.ah.b : Nat) : Int) = r1 at *
  generalize ((x.ah.c : Nat) : Int) = r2 at *
  generalize ((x.ah.d : Nat) : Int) = r3 at *
  generalize ((x.ah.e : Nat) : Int) = r4 at *
  obtain ⟨wa, hwa⟩ : ∃ wa, w.alloc (.cells #[.int .i64 (me : Int), .int .i64 (sq : Int), .int .i64 r0, .int .i64 r1, .int .i64 r2, .int .i64 r3, .int .i64 r4, .int .i64 (kn : Int), .string wd, .int .i64 (cn : Int)] 122) = wa := ⟨_, rfl⟩
  have hba : Below w.heap.size w wa := by rw [← hwa]; exact (Below.refl _ w).alloc (Nat.le_refl _) _
  have hea : wa.heap[w.heap.size]? = some (.cells #[.int .i64 (me : Int), .int .i64 (sq : Int), .int .i64 r0, .int .i64 r1, .int .i64 r2, .int .i64 r3, .int .i64 r4, .int .i64 (kn : Int), .string wd, .int .i64 (cn : Int)] 122 (0, 0)) := by rw [← hwa]; exact heap_alloc_new w _
  have hsa : wa.heap.size = w.heap.size + 1 := by rw [← hwa]; simp
  rw [hwa]
  clear hwa
  have HBA : Hid (Below w.heap.size w wa) := hba
  have HEA : Hid (wa.heap[w.heap.size]? = some (.cells #[.int .i64 (me : Int), .int .i64 (sq : Int), .int .i64 r0, .int .i64 r1, .int .i64 r2, .int .i64 r3, .int .i64 r4, .int .i64 (kn : Int), .string wd, .int .i64 (cn : Int)] 122 (0, 0))) := hea
  have HRA : Hid (wa.ownsRow 0 122 10 (.slice pe L cape) L (enRow log)) := (Upd.of_below (S := []) hba).owns HR.out (by simp)
  have a4 : wa.cell? ⟨rb, 4, none⟩ = some (.slice pe L cape) := cell_below hba c4
  have af : wa.frozen? ⟨rb, 4, none⟩ = false := (World.frozen?_of_block (a := ⟨rb, 4, none⟩) (hba.block rb hrl)).trans (fz 4)
  have a0 : wa.cell? ⟨w.heap.size, 0, none⟩ = some (.int .i64 (me : Int)) := by rw [cell_of_heap hea]; rfl
  have a1 : wa.cell? ⟨w.heap.size, 1, none⟩ = some (.int .i64 (sq : Int)) := by rw [cell_of_heap hea]; rfl
  have a2 : wa.cell? ⟨w.heap.size, 2, none⟩ = some (.int .i64 r0) := by rw [cell_of_heap hea]; rfl
  have a3 : wa.cell? ⟨w.heap.size, 3, none⟩ = some (.int .i64 r1) := by rw [cell_of_heap hea]; rfl
  have a4' : wa.cell? ⟨w.heap.size, 4, none⟩ = some (.int .i64 r2) := by rw [cell_of_heap hea]; rfl
  have a5 : wa.cell? ⟨w.heap.size, 5, none⟩ = some (.int .i64 r3) := by rw [cell_of_heap hea]; rfl
  have a6 : wa.cell? ⟨w.heap.size, 6, none⟩ = some (.int .i64 r4) := by rw [cell_of_heap hea]; rfl
  have a7 : wa.cell? ⟨w.heap.size, 7, none⟩ = some (.int .i64 (kn : Int)) := by rw [cell_of_heap hea]; rfl
  have a8 : wa.cell? ⟨w.heap.size, 8, none⟩ = some (.string wd) := by rw [cell_of_heap hea]; rfl
  have a9 : wa.cell? ⟨w.heap.size, 9, none⟩ = some (.int .i64 (cn : Int)) := by rw [cell_of_heap hea]; rfl
  clear c4 c5 fz hba hea
  generalize hb0 : w.heap.size = b0 at *
  have k4 : ∀ o, (wa.alloc o).cell? ⟨rb, 4, none⟩ = some (.slice pe L cape) := fun o => (World.cell?_of_block (a := ⟨rb, 4, none⟩) (Below.heap_alloc wa o rb (by omega))).trans a4
  have kf : ∀ o, (wa.alloc o).frozen? ⟨rb, 4, none⟩ = false := fun o => (World.frozen?_of_block (a := ⟨rb, 4, none⟩) (Below.heap_alloc wa o rb (by omega))).trans af
  go_region_law
    ((refine step_append_lies _ (by rfl) _ _ _ (by rfl) 0 122 i3 _ 10 88 Tryz.underlying101 hi3 hy0 hy1 hy2 rfl (by omega) (.slice pe L cape) L (enRow log) (by rfl) (Upd.owns (S := []) (Upd.drew (Upd.alloc (Upd.refl _ _) _)) HRA.out (by simp))
        ⟨b0 + 1, 0, none⟩ 1 1 [.int .i64 (me : Int), .int .i64 (sq : Int), .int .i64 r0, .int .i64 r1, .int .i64 r2, .int .i64 r3, .int .i64 r4, .int .i64 (kn : Int), .string wd, .int .i64 (cn : Int)] (by rfl) (by rfl) (World.news_of_block (cs := #[.int .i64 (me : Int), .int .i64 (sq : Int), .int .i64 r0, .int .i64 r1, .int .i64 r2, .int .i64 r3, .int .i64 r4, .int .i64 (kn : Int), .string wd, .int .i64 (cn : Int)]) (t := 122) (fr := (0, 0)) (by rw [← hsa]; exact heap_alloc_new wa _)) (by simp [Value.oneCell'])
        (by omega) (by unfold maxLen; omega) (by omega) (by first | (simp; done) | (simp; omega)) (b0 + 1 + 1) (by simp [hsa]) ?_; intro g5 cap5 w5 hown5 hgrow hat5 hlt5; have s2 : w5.cell? ⟨rb, 4, none⟩ = some (.slice pe L cape) := (hgrow.cell_far ⟨rb, 4, none⟩ (by first | (simp; done) | (simp; omega)) (Ne.symm hne)).trans (k4 _); have sf : w5.frozen? ⟨rb, 4, none⟩ = false := (hgrow.frozen_far ⟨rb, 4, none⟩ (by first | (simp; done) | (simp; omega)) (Ne.symm hne)).trans (kf _)))
  all_goals
    obtain ⟨W9, hW9⟩ : ∃ W, W = w5.setCell ⟨rb, 4, none⟩ (.slice (some ⟨g5, 0, none⟩) (L + 1) cap5) := ⟨_, rfl⟩
    rw [← hW9]
    have u5 : Upd [(Value.slice pe L cape).ownBlock] wa w5 := (((Upd.refl _ wa).alloc _).drew).grown hgrow fun b hb => .inl (by simp [hb])
    have ne0 : ∀ b, (Value.slice pe L cape).ownBlock = some b → b < b0 := fun b hb => by have := (HR.out.lt b hb).2; omega
    have hg5 : g5 ≠ rb := by
      rcases hat5 with h | h
      · intro e; exact hne (e ▸ h)
      · omega
    have hr5 : w5.heap[rb]? = some (.cells C T (0, 0)) := (u5.block rb (by omega) (by simpa using Ne.symm hne)).trans ((HBA.out.block rb hrl).trans HRB.out)
    have he5 : w5.heap[b0]? = wa.heap[b0]? := u5.block b0 (by omega) (by simp only [List.mem_singleton]; intro e; have := ne0 b0 e.symm; omega)
    have hr9 : W9.heap[rb]? = some (.cells (C.setIfInBounds 4 (.slice (some ⟨g5, 0, none⟩) (L + 1) cap5)) T (0, 0)) := by rw [hW9]; exact heap_setCell_same hr5 _
    have he9 : W9.heap[b0]? = wa.heap[b0]? := by rw [hW9, Below.heap_setCell _ _ _ _ (by show b0 ≠ rb; omega)]; exact he5
    have q0 : W9.cell? ⟨b0, 0, none⟩ = some (.int .i64 (me : Int)) := by rw [cell_of_heap (he9.trans HEA.out)]; rfl
    have q1 : W9.cell? ⟨b0, 1, none⟩ = some (.int .i64 (sq : Int)) := by rw [cell_of_heap (he9.trans HEA.out)]; rfl
    have q5 : W9.cell? ⟨rb, 5 + me, none⟩ = some (.int .i64 (rv : Int)) := by
      rw [cell_of_heap hr9, Array.getElem?_setIfInBounds_ne (by omega)]; exact HC5.out
    have qf : W9.frozen? ⟨rb, 5 + me, none⟩ = false := frozen_of_heap hr9 _
    have ho9 : W9.ownsRow 0 122 10 (.slice (some ⟨g5, 0, none⟩) (L + 1) cap5) (L + 1) (enRow (log ++ [x])) := by
      rw [hW9, HL.out]; exact owns_setCell_other hown5 (fun b hb => by cases hb; exact hg5) _
    have u9 : Upd [some rb, ev.ownBlock] w W9 := by
      rw [HE.out, hW9]
      exact (Upd.trans (S := [some rb, (Value.slice pe L cape).ownBlock]) (Upd.of_below (by rw [hb0]; exact HBA.out)) u5 (fun i hi => .inl (List.mem_cons_of_mem _ hi))).setCell (.inl (by simp)) _
    have HF : Hid (ev.ownBlock = some g5 ∨ w.heap.size ≤ g5) := by
      rw [HE.out]
      rcases hat5 with h | h
      · exact .inl h
      · exact .inr (by omega)
    have H9 : Hid _ := ho9
    have HU : Hid _ := u9
    have HR9 : Hid _ := hr9
    have HG : Hid (g5 ≠ rb) := hg5
    clear u5 ne0 hr5 he5 hr9 he9 hW9 ho9 u9 hgrow hown5 s2 sf hat5 k4 kf a0 a1 a2 a3 a4 a4' a5 a6 a7 a8 a9 af HEA HBA HRA HR HRB HL hy0 hy1 hy2 hi3 i3 hg5
    have hmi0 : (0 : Int) ≤ (me : Int) := by omega
    have hmi5 : (me : Int) < 5 := by omega
    have hmi6 : (me : Int) ≤ 5 := by omega
    go_upto_region 2 with fail
    go_region_held3 (fun w' => w'.cell? ⟨b0, 0, none⟩ = some (.int .i64 (me : Int)) ∧ w'.cell? ⟨b0, 1, none⟩ = some (.int .i64 (sq : Int)))
      (first
        | exact ⟨q0, q1⟩
        | exact ⟨(World.cell?_of_block (a := ⟨b0, 0, none⟩) (Below.heap_setCell W9 ⟨rb, 5 + me, none⟩ _ b0 (by show b0 ≠ rb; omega))).trans q0, (World.cell?_of_block (a := ⟨b0, 1, none⟩) (Below.heap_setCell W9 ⟨rb, 5 + me, none⟩ _ b0 (by show b0 ≠ rb; omega))).trans q1⟩
        | go_keep)
      (first
        | fail)
    go_wp2
    go_end0
    subst hL
    rw [HME.out, HSQ.out]
    refine ⟨rfl, g5, cap5, ?_, HF.out, HG.out, heap_setCell_same HR9.out _, (HU.out.setCell (.inl (by simp)) _).drew⟩
    have h := owns_setCell_other (a := ⟨rb, 5 + me, none⟩) H9.out (fun b hb => by cases hb; exact HG.out) (.int .i64 (sq : Int))
    exact h

end Go.Proofs.YtckmppkdpnhodaaGreatDoor

namespace Go.Proofs.YtckmppkdpnhodaaGreatDoor
set_option linter.unusedVariables false
set_option linter.unusedSimpArgs false
open Go.RowKit Go.Proofs

attribute [local go_sem ↓] Go.wp_at_zero Go.wp_at_succ

set_option maxRecDepth 100000 in
set_option maxHeartbeats 8000000 in
theorem logdoG (rb : Nat) (log : List En) (h8 : log.length ≤ 4294967296) (x : En) (s0 : Nat) (hx : x.seq = s0 + 1) (hs0 : x.ah.get x.org = s0) (ev : Value) (C : Array Value) (T : TypeId) (w : World) (hrb : w.heap[rb]? = some (.cells C T (0, 0))) (h4 : C[4]? = some ev) (hr : ∀ j, j < 5 → C[5 + j]? = some (.int .i64 (x.ah.get j : Int)))
    (hrow : w.ownsRow 0 122 10 ev log.length (enRow log)) (hne : ev.ownBlock ≠ some rb) :
    Calls Tryz.prog 49 #[.pointer (some ⟨rb, 4, none⟩), .int .i64 (x.org : Int), .agg #[.int .i64 (x.c.k.num : Int), .string x.c.word, .int .i64 (x.c.count : Int)]] w fun e w' =>
      e = .returned (.agg #[.int .i64 (x.org : Int), .int .i64 ((s0 : Int) + 1), .int .i64 (x.ah.a : Int), .int .i64 (x.ah.b : Int), .int .i64 (x.ah.c : Int), .int .i64 (x.ah.d : Int), .int .i64 (x.ah.e : Int), .int .i64 (x.c.k.num : Int), .string x.c.word, .int .i64 (x.c.count : Int)]) ∧ ∃ g cap, w'.ownsRow 0 122 10 (.slice (some ⟨g, 0, none⟩) (log.length + 1) cap) (log.length + 1) (enRow (log ++ [x])) ∧ (ev.ownBlock = some g ∨ w.heap.size ≤ g) ∧ g ≠ rb ∧
        w'.heap[rb]? = some (.cells ((C.setIfInBounds 4 (.slice (some ⟨g, 0, none⟩) (log.length + 1) cap)).setIfInBounds (5 + x.org) (.int .i64 ((s0 : Int) + 1))) T (0, 0)) ∧ Upd [some rb, ev.ownBlock] w w' := by
  have hrl : rb < w.heap.size := (Array.getElem?_eq_some_iff.1 hrb).1
  have hel : ∀ b, ev.ownBlock = some b → b < w.heap.size := fun b hb => (hrow.lt b hb).2
  have hsi : (x.seq : Int) = (s0 : Int) + 1 := by omega
  have hme := x.ho
  have hsb : s0 < 1152921504606846976 := by have := x.hs; omega
  have HP : Hid (∀ W, Below w.heap.size w W → Calls Tryz.prog 88 #[.pointer (some ⟨rb, 4, none⟩), .agg #[.int .i64 (x.org : Int), .int .i64 ((s0 : Int) + 1), .int .i64 (x.ah.a : Int), .int .i64 (x.ah.b : Int), .int .i64 (x.ah.c : Int), .int .i64 (x.ah.d : Int), .int .i64 (x.ah.e : Int), .int .i64 (x.c.k.num : Int), .string x.c.word, .int .i64 (x.c.count : Int)]] W fun e w' =>
      e = .returned (.tuple #[]) ∧ ∃ g cap, w'.ownsRow 0 122 10 (.slice (some ⟨g, 0, none⟩) (log.length + 1) cap) (log.length + 1) (enRow (log ++ [x])) ∧ (ev.ownBlock = some g ∨ W.heap.size ≤ g) ∧ g ≠ rb ∧
        w'.heap[rb]? = some (.cells ((C.setIfInBounds 4 (.slice (some ⟨g, 0, none⟩) (log.length + 1) cap)).setIfInBounds (5 + x.org) (.int .i64 ((s0 : Int) + 1))) T (0, 0)) ∧ Upd [some rb, ev.ownBlock] W w') := fun W hW =>
    by
      have := logputG rb log h8 x ev C T W ((hW.block rb hrl).trans hrb) h4 s0 (by rw [hr x.org hme, hs0]) ((Upd.of_below (S := []) hW).owns hrow (by simp)) hne
      rw [hsi] at this
      exact this
  have c0 : w.cell? ⟨rb, 5, none⟩ = some (.int .i64 (x.ah.a : Int)) := by rw [cell_of_heap hrb]; exact hr 0 (by omega)
  have c1 : w.cell? ⟨rb, 6, none⟩ = some (.int .i64 (x.ah.b : Int)) := by rw [cell_of_heap hrb]; exact hr 1 (by omega)
  have c2 : w.cell? ⟨rb, 7, none⟩ = some (.int .i64 (x.ah.c : Int)) := by rw [cell_of_heap hrb]; exact hr 2 (by omega)
  have c3 : w.cell? ⟨rb, 8, none⟩ = some (.int .i64 (x.ah.d : Int)) := by rw [cell_of_heap hrb]; exact hr 3 (by omega)
  have c4 : w.cell? ⟨rb, 9, none⟩ = some (.int .i64 (x.ah.e : Int)) := by rw [cell_of_heap hrb]; exact hr 4 (by omega)
  have cm5 : w.cell? ⟨rb, 5 + x.org, none⟩ = some (.int .i64 (s0 : Int)) := by rw [cell_of_heap hrb, hr x.org hme, hs0]
  clear hrow hrb h4 hr hsi hx hs0
  have hmi0 : (0 : Int) ≤ (x.org : Int) := by omega
  have hmi5 : (x.org : Int) < 5 := by omega
  have hmi6 : (x.org : Int) ≤ 5 := by omega
  go_enter Tryz.func49, Tryz.ntmps49
  have hwr : IntKind.i64.wrap ((s0 : Int) + 1) = (s0 : Int) + 1 := by rw [IntKind.wrap_i64]; omega
  go_upto_region 1 with fail
  generalize hL : log.length = L at *
  generalize hr0 : ((x.ah.a : Nat) : Int) = r0 at *
  generalize hr1 : ((x.ah.b : Nat) : Int) = r1 at *
  generalize hr2 : ((x.ah.c : Nat) : Int) = r2 at *
  generalize hr3 : ((x.ah.d : Nat) : Int) = r3 at *
  generalize hr4 : ((x.ah.e : Nat) : Int) = r4 at *
  obtain ⟨wa, hwa⟩ : ∃ wa, (w.alloc (.cells #[.int .i64 (x.c.k.num : Int), .string x.c.word, .int .i64 (x.c.count : Int)] 116)).alloc (.cells #[.int .i64 0, .int .i64 0, .int .i64 0, .int .i64 0, .int .i64 0, .int .i64 0, .int .i64 0, .int .i64 0, .string ByteArray.empty, .int .i64 0] 122) = wa := ⟨_, rfl⟩
  have hba : Below w.heap.size w wa := by rw [← hwa]; exact ((Below.refl _ w).alloc (Nat.le_refl _) _).alloc (by simp) _
  have hea : wa.heap[w.heap.size]? = some (.cells #[.int .i64 (x.c.k.num : Int), .string x.c.word, .int .i64 (x.c.count : Int)] 116 (0, 0)) := by rw [← hwa]; exact (Below.heap_alloc _ _ _ (by simp)).trans (heap_alloc_new w _)
  have hra : wa.heap[w.heap.size + 1]? = some (.cells #[.int .i64 0, .int .i64 0, .int .i64 0, .int .i64 0, .int .i64 0, .int .i64 0, .int .i64 0, .int .i64 0, .string ByteArray.empty, .int .i64 0] 122 (0, 0)) := by
    rw [← hwa]
    have := heap_alloc_new (w.alloc (.cells #[.int .i64 (x.c.k.num : Int), .string x.c.word, .int .i64 (x.c.count : Int)] 116)) (.cells #[.int .i64 0, .int .i64 0, .int .i64 0, .int .i64 0, .int .i64 0, .int .i64 0, .int .i64 0, .int .i64 0, .string ByteArray.empty, .int .i64 0] 122)
    simpa only [World.size_alloc] using this
  have hsa : wa.heap.size = w.heap.size + 1 + 1 := by rw [← hwa]; simp
  have hwa' : (w.alloc (.cells #[.int .i64 (x.c.k.num : Int), .string x.c.word, .int .i64 (x.c.count : Int)] 116)).alloc (.cells #[.int .i64 0, .int .i64 0, .int .i64 0, .int .i64 0, .int .i64 0, .int .i64 0, .int .i64 0, .int .i64 0, .string { data := #[] }, .int .i64 0] 122) = wa := hwa
  rw [hwa']
  clear hwa hwa'
  have HBA : Hid (Below w.heap.size w wa) := hba
  have HRA : Hid (wa.heap[w.heap.size + 1]? = some (.cells #[.int .i64 0, .int .i64 0, .int .i64 0, .int .i64 0, .int .i64 0, .int .i64 0, .int .i64 0, .int .i64 0, .string ByteArray.empty, .int .i64 0] 122 (0, 0))) := hra
  have a0 := cell_below hba c0
  have a1 := cell_below hba c1
  have a2 := cell_below hba c2
  have a3 := cell_below hba c3
  have a4 := cell_below hba c4
  have am := cell_below hba cm5
  have b0 : wa.cell? ⟨w.heap.size, 0, none⟩ = some (.int .i64 (x.c.k.num : Int)) := by rw [cell_of_heap hea]; rfl
  have b1 : wa.cell? ⟨w.heap.size, 1, none⟩ = some (.string x.c.word) := by rw [cell_of_heap hea]; rfl
  have b2 : wa.cell? ⟨w.heap.size, 2, none⟩ = some (.int .i64 (x.c.count : Int)) := by rw [cell_of_heap hea]; rfl
  clear c0 c1 c2 c3 c4 cm5 hba hea hra
  generalize hb0 : w.heap.size = B at *
  have n0 : B ≠ wa.heap.size := by omega
  have n1 : rb ≠ wa.heap.size := by omega
  go_region_held3 (fun w' => w'.cell? ⟨rb, 5, none⟩ = some (.int .i64 r0) ∧ w'.cell? ⟨rb, 6, none⟩ = some (.int .i64 r1) ∧ w'.cell? ⟨rb, 7, none⟩ = some (.int .i64 r2) ∧ w'.cell? ⟨rb, 8, none⟩ = some (.int .i64 r3) ∧ w'.cell? ⟨rb, 9, none⟩ = some (.int .i64 r4) ∧ w'.cell? ⟨rb, 5 + x.org, none⟩ = some (.int .i64 (s0 : Int)) ∧ w'.cell? ⟨B, 0, none⟩ = some (.int .i64 (x.c.k.num : Int)) ∧ w'.cell? ⟨B, 1, none⟩ = some (.string x.c.word) ∧ w'.cell? ⟨B, 2, none⟩ = some (.int .i64 (x.c.count : Int)))
    (first
      | exact ⟨a0, a1, a2, a3, a4, am, b0, b1, b2⟩
      | go_keep)
    (first
      | fail)
  obtain ⟨wv, hwv⟩ : ∃ wv, (wa.alloc (.cells #[.int .i64 (x.org : Int), .int .i64 ((s0 : Int) + 1), .int .i64 r0, .int .i64 r1, .int .i64 r2, .int .i64 r3, .int .i64 r4, .int .i64 (x.c.k.num : Int), .string x.c.word, .int .i64 (x.c.count : Int)] 122)).drew = wv := ⟨_, rfl⟩
  have hbv : Below B w wv := by rw [← hwv]; exact (HBA.out.alloc (by omega) _).drew
  have hev : wv.heap[B + 1 + 1]? = some (.cells #[.int .i64 (x.org : Int), .int .i64 ((s0 : Int) + 1), .int .i64 r0, .int .i64 r1, .int .i64 r2, .int .i64 r3, .int .i64 r4, .int .i64 (x.c.k.num : Int), .string x.c.word, .int .i64 (x.c.count : Int)] 122 (0, 0)) := by rw [← hwv, ← hsa]; exact heap_alloc_new wa _
  have hrv : wv.heap[B + 1]? = some (.cells #[.int .i64 0, .int .i64 0, .int .i64 0, .int .i64 0, .int .i64 0, .int .i64 0, .int .i64 0, .int .i64 0, .string ByteArray.empty, .int .i64 0] 122 (0, 0)) := by rw [← hwv]; exact (Below.heap_alloc wa _ (B + 1) (by omega)).trans HRA.out
  rw [hwv]
  rename_i hHeld
  clear hwv a0 a1 a2 a3 a4 am b0 b1 b2 n0 n1 hHeld
  have HPV := HP.out wv (by rw [← hb0] at hbv ⊢; exact hbv)
  have HPV' : Hid _ := HPV
  have hsv : B + 1 + 1 < wv.heap.size := (Array.getElem?_eq_some_iff.1 hev).1
  have HEV : Hid (wv.heap[B + 1 + 1]? = some (.cells #[.int .i64 (x.org : Int), .int .i64 ((s0 : Int) + 1), .int .i64 r0, .int .i64 r1, .int .i64 r2, .int .i64 r3, .int .i64 r4, .int .i64 (x.c.k.num : Int), .string x.c.word, .int .i64 (x.c.count : Int)] 122 (0, 0))) := hev
  have HRV : Hid (wv.heap[B + 1]? = some (.cells #[.int .i64 0, .int .i64 0, .int .i64 0, .int .i64 0, .int .i64 0, .int .i64 0, .int .i64 0, .int .i64 0, .string ByteArray.empty, .int .i64 0] 122 (0, 0))) := hrv
  have HBV : Hid (Below B w wv) := hbv
  have e0 : wv.cell? ⟨B + 1 + 1, 0, none⟩ = some (.int .i64 (x.org : Int)) := by rw [cell_of_heap hev]; rfl
  have e1 : wv.cell? ⟨B + 1 + 1, 1, none⟩ = some (.int .i64 ((s0 : Int) + 1)) := by rw [cell_of_heap hev]; rfl
  have e2 : wv.cell? ⟨B + 1 + 1, 2, none⟩ = some (.int .i64 r0) := by rw [cell_of_heap hev]; rfl
  have e3 : wv.cell? ⟨B + 1 + 1, 3, none⟩ = some (.int .i64 r1) := by rw [cell_of_heap hev]; rfl
  have e4 : wv.cell? ⟨B + 1 + 1, 4, none⟩ = some (.int .i64 r2) := by rw [cell_of_heap hev]; rfl
  have e5 : wv.cell? ⟨B + 1 + 1, 5, none⟩ = some (.int .i64 r3) := by rw [cell_of_heap hev]; rfl
  have e6 : wv.cell? ⟨B + 1 + 1, 6, none⟩ = some (.int .i64 r4) := by rw [cell_of_heap hev]; rfl
  have e7 : wv.cell? ⟨B + 1 + 1, 7, none⟩ = some (.int .i64 (x.c.k.num : Int)) := by rw [cell_of_heap hev]; rfl
  have e8 : wv.cell? ⟨B + 1 + 1, 8, none⟩ = some (.string x.c.word) := by rw [cell_of_heap hev]; rfl
  have e9 : wv.cell? ⟨B + 1 + 1, 9, none⟩ = some (.int .i64 (x.c.count : Int)) := by rw [cell_of_heap hev]; rfl
  have HK : Hid (∀ w2, Upd [some rb, ev.ownBlock] wv w2 → w2.heap[B + 1 + 1]? = some (.cells #[.int .i64 (x.org : Int), .int .i64 ((s0 : Int) + 1), .int .i64 r0, .int .i64 r1, .int .i64 r2, .int .i64 r3, .int .i64 r4, .int .i64 (x.c.k.num : Int), .string x.c.word, .int .i64 (x.c.count : Int)] 122 (0, 0)) ∧ w2.heap[B + 1]? = some (.cells #[.int .i64 0, .int .i64 0, .int .i64 0, .int .i64 0, .int .i64 0, .int .i64 0, .int .i64 0, .int .i64 0, .string ByteArray.empty, .int .i64 0] 122 (0, 0))) := fun w2 hu => by
    have nn : ∀ b, B ≤ b → some b ∉ [some rb, ev.ownBlock] := fun b hb hm => by
      simp only [List.mem_cons, List.not_mem_nil, or_false, Option.some.injEq] at hm
      rcases hm with rfl | hm
      · omega
      · have := hel b hm.symm; omega
    exact ⟨(hu.block _ (by omega) (nn _ (by omega))).trans HEV.out, (hu.block _ (by omega) (nn _ (by omega))).trans HRV.out⟩
  have HK2 : Hid (∀ w2, Upd [some rb, ev.ownBlock] wv w2 → (w2.cell? ⟨B + 1 + 1, 0, none⟩ = some (.int .i64 (x.org : Int)) ∧ w2.cell? ⟨B + 1 + 1, 1, none⟩ = some (.int .i64 ((s0 : Int) + 1)) ∧ w2.cell? ⟨B + 1 + 1, 2, none⟩ = some (.int .i64 r0) ∧ w2.cell? ⟨B + 1 + 1, 3, none⟩ = some (.int .i64 r1) ∧ w2.cell? ⟨B + 1 + 1, 4, none⟩ = some (.int .i64 r2) ∧ w2.cell? ⟨B + 1 + 1, 5, none⟩ = some (.int .i64 r3) ∧ w2.cell? ⟨B + 1 + 1, 6, none⟩ = some (.int .i64 r4) ∧ w2.cell? ⟨B + 1 + 1, 7, none⟩ = some (.int .i64 (x.c.k.num : Int)) ∧ w2.cell? ⟨B + 1 + 1, 8, none⟩ = some (.string x.c.word) ∧ w2.cell? ⟨B + 1 + 1, 9, none⟩ = some (.int .i64 (x.c.count : Int))) ∧ (∀ o, w2.frozen? ⟨B + 1, o, none⟩ = false) ∧ w2.cell? ⟨B + 1, 0, none⟩ = some (.int .i64 0) ∧ w2.cell? ⟨B + 1, 1, none⟩ = some (.int .i64 0) ∧ w2.cell? ⟨B + 1, 2, none⟩ = some (.int .i64 0) ∧ w2.cell? ⟨B + 1, 3, none⟩ = some (.int .i64 0) ∧ w2.cell? ⟨B + 1, 4, none⟩ = some (.int .i64 0) ∧ w2.cell? ⟨B + 1, 5, none⟩ = some (.int .i64 0) ∧ w2.cell? ⟨B + 1, 6, none⟩ = some (.int .i64 0) ∧ w2.cell? ⟨B + 1, 7, none⟩ = some (.int .i64 0) ∧ w2.cell? ⟨B + 1, 8, none⟩ = some (.string ByteArray.empty) ∧ w2.cell? ⟨B + 1, 9, none⟩ = some (.int .i64 0)) := fun w2 hu => by
    obtain ⟨h1, h2⟩ := HK.out w2 hu
    exact ⟨⟨by rw [cell_of_heap h1]; rfl, by rw [cell_of_heap h1]; rfl, by rw [cell_of_heap h1]; rfl, by rw [cell_of_heap h1]; rfl, by rw [cell_of_heap h1]; rfl, by rw [cell_of_heap h1]; rfl, by rw [cell_of_heap h1]; rfl, by rw [cell_of_heap h1]; rfl, by rw [cell_of_heap h1]; rfl, by rw [cell_of_heap h1]; rfl⟩, frozen_of_heap h2, by rw [cell_of_heap h2]; rfl, by rw [cell_of_heap h2]; rfl, by rw [cell_of_heap h2]; rfl, by rw [cell_of_heap h2]; rfl, by rw [cell_of_heap h2]; rfl, by rw [cell_of_heap h2]; rfl, by rw [cell_of_heap h2]; rfl, by rw [cell_of_heap h2]; rfl, by rw [cell_of_heap h2]; rfl, by rw [cell_of_heap h2]; rfl⟩
  clear hev hrv hbv HPV
  go_wp2_with (go_at_call 88; refine Calls.mono HPV'.out ?_; rintro e w2 ⟨rfl, g, cap, o1, o2, o3, o4, o5⟩; obtain ⟨⟨p0, p1, p2, p3, p4, p5, p6, p7, p8, p9⟩, pf, z0, z1, z2, z3, z4, z5, z6, z7, z8, z9⟩ := HK2.out w2 o5)
  obtain ⟨W7, hW7⟩ : ∃ W7, ((((((((((w2.setCell ⟨B + 1, 0, none⟩ (.int .i64 (x.org : Int))).setCell ⟨B + 1, 1, none⟩ (.int .i64 ((s0 : Int) + 1))).setCell ⟨B + 1, 2, none⟩ (.int .i64 r0)).setCell ⟨B + 1, 3, none⟩ (.int .i64 r1)).setCell ⟨B + 1, 4, none⟩ (.int .i64 r2)).setCell ⟨B + 1, 5, none⟩ (.int .i64 r3)).setCell ⟨B + 1, 6, none⟩ (.int .i64 r4)).setCell ⟨B + 1, 7, none⟩ (.int .i64 (x.c.k.num : Int))).setCell ⟨B + 1, 8, none⟩ (.string x.c.word)).setCell ⟨B + 1, 9, none⟩ (.int .i64 (x.c.count : Int))) = W7 := ⟨_, rfl⟩
  have k7 : ∀ b, b ≠ B + 1 → W7.heap[b]? = w2.heap[b]? := fun b hne => by
    rw [← hW7, Below.heap_setCell _ _ _ _ hne, Below.heap_setCell _ _ _ _ hne, Below.heap_setCell _ _ _ _ hne, Below.heap_setCell _ _ _ _ hne, Below.heap_setCell _ _ _ _ hne, Below.heap_setCell _ _ _ _ hne, Below.heap_setCell _ _ _ _ hne, Below.heap_setCell _ _ _ _ hne, Below.heap_setCell _ _ _ _ hne, Below.heap_setCell _ _ _ _ hne]
  have h7 : W7.heap[B + 1]? = some (.cells #[.int .i64 (x.org : Int), .int .i64 ((s0 : Int) + 1), .int .i64 r0, .int .i64 r1, .int .i64 r2, .int .i64 r3, .int .i64 r4, .int .i64 (x.c.k.num : Int), .string x.c.word, .int .i64 (x.c.count : Int)] 122 (0, 0)) := by
    rw [← hW7, (heap_setCell_same (heap_setCell_same (heap_setCell_same (heap_setCell_same (heap_setCell_same (heap_setCell_same (heap_setCell_same (heap_setCell_same (heap_setCell_same (heap_setCell_same (HK.out w2 o5).2 _) _) _) _) _) _) _) _) _) _)]
    simp
  have u7 : Upd [some rb, ev.ownBlock] w W7 := by
    have u2 : Upd [some rb, ev.ownBlock] w w2 := (Upd.of_below (by rw [hb0]; exact HBV.out)).trans o5 (fun i hi => .inl hi)
    rw [← hW7]
    exact ((((((((((u2.setCell (.inr (by show w.heap.size ≤ B + 1; omega)) _).setCell (.inr (by show w.heap.size ≤ B + 1; omega)) _).setCell (.inr (by show w.heap.size ≤ B + 1; omega)) _).setCell (.inr (by show w.heap.size ≤ B + 1; omega)) _).setCell (.inr (by show w.heap.size ≤ B + 1; omega)) _).setCell (.inr (by show w.heap.size ≤ B + 1; omega)) _).setCell (.inr (by show w.heap.size ≤ B + 1; omega)) _).setCell (.inr (by show w.heap.size ≤ B + 1; omega)) _).setCell (.inr (by show w.heap.size ≤ B + 1; omega)) _).setCell (.inr (by show w.heap.size ≤ B + 1; omega)) _)
  rw [hW7]
  clear hW7
  have y0 : W7.cell? ⟨B + 1, 0, none⟩ = some (.int .i64 (x.org : Int)) := by rw [cell_of_heap h7]; rfl
  have y1 : W7.cell? ⟨B + 1, 1, none⟩ = some (.int .i64 ((s0 : Int) + 1)) := by rw [cell_of_heap h7]; rfl
  have y2 : W7.cell? ⟨B + 1, 2, none⟩ = some (.int .i64 r0) := by rw [cell_of_heap h7]; rfl
  have y3 : W7.cell? ⟨B + 1, 3, none⟩ = some (.int .i64 r1) := by rw [cell_of_heap h7]; rfl
  have y4 : W7.cell? ⟨B + 1, 4, none⟩ = some (.int .i64 r2) := by rw [cell_of_heap h7]; rfl
  have y5 : W7.cell? ⟨B + 1, 5, none⟩ = some (.int .i64 r3) := by rw [cell_of_heap h7]; rfl
  have y6 : W7.cell? ⟨B + 1, 6, none⟩ = some (.int .i64 r4) := by rw [cell_of_heap h7]; rfl
  have y7 : W7.cell? ⟨B + 1, 7, none⟩ = some (.int .i64 (x.c.k.num : Int)) := by rw [cell_of_heap h7]; rfl
  have y8 : W7.cell? ⟨B + 1, 8, none⟩ = some (.string x.c.word) := by rw [cell_of_heap h7]; rfl
  have y9 : W7.cell? ⟨B + 1, 9, none⟩ = some (.int .i64 (x.c.count : Int)) := by rw [cell_of_heap h7]; rfl
  have ow : W7.ownsRow 0 122 10 (.slice (some ⟨g, 0, none⟩) (L + 1) cap) (L + 1) (enRow (log ++ [x])) := by
    have hg : g ≠ B + 1 := by
      rcases o2 with h | h
      · have := hel g h; omega
      · omega
    refine ⟨o1.1, ?_⟩
    rcases o1.2 with hn | ⟨g', cap', cur, hv, hb, hh, rest⟩
    · exact .inl hn
    · obtain rfl : g = g' := by cases hv; rfl
      exact .inr ⟨g, cap', cur, hv, hb, (k7 g hg).trans hh, rest⟩
  have hfin : ev.ownBlock = some g ∨ w.heap.size ≤ g := by
    rcases o2 with h | h
    · exact .inl h
    · exact .inr (by omega)
  subst hr0 hr1 hr2 hr3 hr4 hL
  exact bodyPost_ret (v := .agg #[.int .i64 (x.org : Int), .int .i64 ((s0 : Int) + 1), .int .i64 (x.ah.a : Int), .int .i64 (x.ah.b : Int), .int .i64 (x.ah.c : Int), .int .i64 (x.ah.d : Int), .int .i64 (x.ah.e : Int), .int .i64 (x.c.k.num : Int), .string x.c.word, .int .i64 (x.c.count : Int)]) (by simp [results, Tryz.results49, go_sem, y0, y1, y2, y3, y4, y5, y6, y7, y8, y9]) rfl ⟨rfl, g, cap, ow, hfin, o3, (k7 rb (by omega)).trans o4, u7⟩

end Go.Proofs.YtckmppkdpnhodaaGreatDoor
