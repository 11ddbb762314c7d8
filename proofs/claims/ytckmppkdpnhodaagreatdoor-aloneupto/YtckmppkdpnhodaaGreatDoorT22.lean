/-
  Contract of (*Log).Ops. The lock about a call; contract of (*Replica).Known. A map of the program's, keyed by strings, as a function from strings.
-/
import Derived.Test.YtckmppkdpnhodaaGreatDoorT21
import Derived.Deep.RegionHeld3
import Derived.Defers
import Derived.Maps.OwnSet
import Derived.Maps.OwnIn
import Derived.StringKeys
import Derived.Sort.KeysCollected
namespace Go.Proofs.YtckmppkdpnhodaaGreatDoor
set_option linter.unusedVariables false
set_option linter.unusedSimpArgs false
open Go.RowKit Go.Proofs

theorem entCells_eq (me i : Nat) (c : Cm) : entCells me i c = [.int .i64 (me : Int), .int .i64 ((i + 1 : Nat) : Int), .int .i64 ((if 0 = me then i else 0 : Nat) : Int), .int .i64 ((if 1 = me then i else 0 : Nat) : Int), .int .i64 ((if 2 = me then i else 0 : Nat) : Int), .int .i64 ((if 3 = me then i else 0 : Nat) : Int), .int .i64 ((if 4 = me then i else 0 : Nat) : Int), .int .i64 (c.k.num : Int), .string c.word, .int .i64 (c.count : Int)] := rfl

theorem entCells_length (me i : Nat) (c : Cm) : (entCells me i c).length = 10 := rfl

theorem flat_get {α : Type} (f : Nat → List α) (s : Nat) (hs : ∀ i, (f i).length = s) : ∀ (n i o : Nat), i < n → o < s → ((List.range n).flatMap f)[i * s + o]? = (f i)[o]?
  | 0, i, o, h, _ => by omega
  | n + 1, i, o, h, ho => by
    have hl : ∀ m, ((List.range m).flatMap f).length = m * s := fun m => by
      induction m with
      | zero => simp
      | succ m ih => rw [List.range_succ, List.flatMap_append, List.length_append, ih]; simp [hs, Nat.add_mul]
    rw [List.range_succ, List.flatMap_append]
    by_cases hi : i < n
    · rw [List.getElem?_append_left (by
        rw [hl n]
        have : (i + 1) * s ≤ n * s := Nat.mul_le_mul_right _ (by omega)
        rw [Nat.add_mul, Nat.one_mul] at this
        omega)]
      exact flat_get f s hs n i o hi ho
    · obtain rfl : i = n := by omega
      rw [List.getElem?_append_right (by rw [hl i]; omega), hl i, Nat.add_sub_cancel_left]
      simp

theorem logCells_get (me : Nat) (log : List Cm) {i o : Nat} (hi : i < log.length) (ho : o < 10) : (logCells me log)[i * 10 + o]? = (entCells me i log[i])[o]? := by
  unfold logCells
  rw [flat_get (fun i => entCells me i (log[i]?.getD cm0)) 10 (fun i => entCells_length _ _ _) log.length i o hi ho]
  simp [hi]

theorem ownOps_snoc (me : Nat) (log : List Cm) (c : Cm) : ownOps me (log ++ [c]) = ownOps me log ++ [.int .i64 (me : Int), .int .i64 ((log.length + 1 : Nat) : Int), .string (textOf c)] := by
  unfold ownOps
  rw [List.length_append, List.length_singleton, List.range_succ, List.flatMap_append]
  congr 1
  · refine flatMap_same _ fun i hi => ?_
    rw [List.getElem?_append_left (List.mem_range.1 hi)]
  · simp

theorem ownOps_length (me : Nat) (log : List Cm) : (ownOps me log).length = log.length * 3 := by
  unfold ownOps
  induction log.length with
  | zero => simp
  | succ m ih => rw [List.range_succ, List.flatMap_append, List.length_append, ih]; simp; omega

/-- An entry's cells in memory. -/
theorem entry_cells {w : World} {ev : Value} {me : Nat} {log : List Cm} (h : w.ownsRow 0 122 10 ev log.length (logCells me log)) {i : Nat} (hi : i < log.length) :
    ∃ g cap, ev = .slice (some ⟨g, 0, none⟩) log.length cap ∧ g < w.heap.size ∧ w.cell? ⟨g, i * 10, none⟩ = some (.int .i64 (me : Int)) ∧ w.cell? ⟨g, i * 10 + 1, none⟩ = some (.int .i64 ((i + 1 : Nat) : Int)) ∧
      w.cell? ⟨g, i * 10 + 2, none⟩ = some (.int .i64 ((if 0 = me then i else 0 : Nat) : Int)) ∧ w.cell? ⟨g, i * 10 + 3, none⟩ = some (.int .i64 ((if 1 = me then i else 0 : Nat) : Int)) ∧ w.cell? ⟨g, i * 10 + 4, none⟩ = some (.int .i64 ((if 2 = me then i else 0 : Nat) : Int)) ∧ w.cell? ⟨g, i * 10 + 5, none⟩ = some (.int .i64 ((if 3 = me then i else 0 : Nat) : Int)) ∧ w.cell? ⟨g, i * 10 + 6, none⟩ = some (.int .i64 ((if 4 = me then i else 0 : Nat) : Int)) ∧
      w.cell? ⟨g, i * 10 + 7, none⟩ = some (.int .i64 (log[i].k.num : Int)) ∧ w.cell? ⟨g, i * 10 + 8, none⟩ = some (.string log[i].word) ∧ w.cell? ⟨g, i * 10 + 9, none⟩ = some (.int .i64 (log[i].count : Int)) := by
  obtain ⟨g, cap, hv, -, hg⟩ := h.form (by omega)
  have hc : ∀ o v, o < 10 → (entCells me i log[i])[o]? = some v → w.cell? ⟨g, i * 10 + o, none⟩ = some v := fun o v ho he => by
    have := h.cells (g := g) (by rw [hv]; rfl) (i * 10 + o) v (by rw [logCells_get me log hi ho]; exact he)
    rwa [Addr.add_mid, Nat.zero_add] at this
  exact ⟨g, cap, hv, hg, hc 0 _ (by omega) rfl, hc 1 _ (by omega) rfl, hc 2 _ (by omega) rfl, hc 3 _ (by omega) rfl, hc 4 _ (by omega) rfl, hc 5 _ (by omega) rfl, hc 6 _ (by omega) rfl, hc 7 _ (by omega) rfl, hc 8 _ (by omega) rfl, hc 9 _ (by omega) rfl⟩

set_option maxRecDepth 100000 in
set_option maxHeartbeats 4000000 in
theorem ops_of (rb me : Nat) (log : List Cm) (ev : Value) (w : World) (hv : VerbsAt w) (h4 : w.cell? ⟨rb, 4, none⟩ = some ev) (hrow : w.ownsRow 0 122 10 ev log.length (logCells me log)) (h8 : log.length ≤ 8) (hok : ∀ c ∈ log, CmOk c) :
    Calls Tryz.prog 55 #[.pointer (some ⟨rb, 4, none⟩)] w fun e w' => ∃ p cap, e = .returned (.slice p log.length cap) ∧ w'.ownsRow w.heap.size 68 3 (.slice p log.length cap) log.length (ownOps me log) ∧ Below w.heap.size w w' := by
  obtain ⟨pe, cape, hev⟩ : ∃ p c, ev = .slice p log.length c := by
    rcases hrow.2 with ⟨h1, h0⟩ | ⟨g, cap', _, h1, _⟩
    · rw [h0]; exact ⟨_, _, h1⟩
    · exact ⟨_, _, h1⟩
  have HR : Hid (w.ownsRow 0 122 10 ev log.length (logCells me log)) := hrow
  have HV : Hid (VerbsAt w) := hv
  have HO : Hid (∀ c ∈ log, CmOk c) := hok
  have HE : Hid (ev = .slice pe log.length cape) := hev
  clear hrow hv hok
  rw [hev] at h4
  clear hev
  obtain ⟨i0, hi0, hz0, hz1, hz2⟩ := info_parts Tryz.info_op
  go_enter Tryz.func55, Tryz.ntmps55
  go_wp2_with (at_make; refine wpList_make_own _ rfl _ _ 62 rfl w.heap.size 68 i0 _ 3 Tryz.underlying62 hi0 hz0 hz1 .i64 .i64 (log.length : Int) log.length rfl rfl rfl (by rw [hz2]; omega) (by unfold maxLen; omega) (Nat.le_refl _) ?_; intro w1 hown1 hgr1; have hb1 : Below w.heap.size w w1 := ⟨hgr1.os, hgr1.tape, hgr1.output, hgr1.size, fun b hb => hgr1.block b hb (by simp)⟩; have q4 := cell_below hb1 h4)
  go_loopw [3, 17] (fun v i wr => ∃ j : Nat, j ≤ log.length ∧ i = .int .i64 j ∧ Hid (wr.ownsRow w.heap.size 68 3 v j (ownOps me (log.take j))) ∧ Hid (Below w.heap.size w wr)) (fun _ i _ => log.length - (intOf i).toNat)
  case atStart => exact ⟨0, Nat.zero_le _, rfl, (by simpa [ownOps] using hown1 : w1.ownsRow w.heap.size 68 3 _ 0 (ownOps me (log.take 0))), hb1⟩
  case round =>
    obtain ⟨j, hj, rfl, hO, hB⟩ := hrel
    by_cases hlt : j < log.length
    · have hrw : wr.ownsRow 0 122 10 ev log.length (logCells me log) := (Upd.of_below (S := []) hB.out).owns HR.out (by simp)
      obtain ⟨g, cap, hge, hgl, e0, e1, e2, e3, e4, e5, e6, e7, e8, e9⟩ := entry_cells hrw hlt
      rw [HE.out] at hge
      obtain ⟨rfl, -, rfl⟩ : pe = some ⟨g, 0, none⟩ ∧ True ∧ cape = cap := by simpa using hge
      clear hge hrw
      have hcm := HO.out log[j] (List.getElem_mem hlt)
      have HT : Hid (∀ W, Below wr.heap.size wr W → Calls Tryz.prog 100 #[.agg #[.int .i64 (log[j].k.num : Int), .string log[j].word, .int .i64 (log[j].count : Int)]] W fun e w' => e = .returned (.string (textOf log[j])) ∧ Below W.heap.size W w') := fun W hW => text_any log[j] hcm W ((HV.out.below hB.out).below hW)
      have HS : Hid (ownOps me (log.take (j + 1)) = ownOps me (log.take j) ++ [.int .i64 (me : Int), .int .i64 ((j : Int) + 1), .string (textOf log[j])]) := by
        show _ = _
        rw [take_snoc' log j hlt, ownOps_snoc, List.length_take, Nat.min_eq_left (by omega)]
        rfl
      have hk5 := log[j].k.num_lt
      generalize textOf log[j] = tx at *
      generalize log[j].k.num = kn at *
      generalize log[j].word = wd at *
      generalize log[j].count = cn at *
      clear hcm h4
      have j0 : (0 : Int) ≤ (j : Int) := by omega
      have j1 : (j : Int) < (log.length : Int) := by omega
      generalize ((if 0 = me then j else 0 : Nat) : Int) = r0 at *
      generalize ((if 1 = me then j else 0 : Nat) : Int) = r1 at *
      generalize ((if 2 = me then j else 0 : Nat) : Int) = r2 at *
      generalize ((if 3 = me then j else 0 : Nat) : Int) = r3 at *
      generalize ((if 4 = me then j else 0 : Nat) : Int) = r4 at *
      go_wp2_with fail
      obtain ⟨wa, hwa⟩ : ∃ x, x = wr.alloc (.cells #[.int .i64 (me : Int), .int .i64 ((j : Int) + 1), .int .i64 r0, .int .i64 r1, .int .i64 r2, .int .i64 r3, .int .i64 r4, .int .i64 (kn : Int), .string wd, .int .i64 (cn : Int)] 122) := ⟨_, rfl⟩
      have hba : Below wr.heap.size wr wa := by rw [hwa]; exact (Below.refl _ wr).alloc (Nat.le_refl _) _
      have hhe : wa.heap[wr.heap.size]? = some (.cells #[.int .i64 (me : Int), .int .i64 ((j : Int) + 1), .int .i64 r0, .int .i64 r1, .int .i64 r2, .int .i64 r3, .int .i64 r4, .int .i64 (kn : Int), .string wd, .int .i64 (cn : Int)] 122 (0, 0)) := by rw [hwa]; exact heap_alloc_new wr _
      have a0 : wa.cell? ⟨wr.heap.size, 0, none⟩ = some (.int .i64 (me : Int)) := by rw [cell_of_heap hhe]; rfl
      have a1 : wa.cell? ⟨wr.heap.size, 1, none⟩ = some (.int .i64 ((j : Int) + 1)) := by rw [cell_of_heap hhe]; rfl
      have a7 : wa.cell? ⟨wr.heap.size, 7, none⟩ = some (.int .i64 (kn : Int)) := by rw [cell_of_heap hhe]; rfl
      have a8 : wa.cell? ⟨wr.heap.size, 8, none⟩ = some (.string wd) := by rw [cell_of_heap hhe]; rfl
      have a9 : wa.cell? ⟨wr.heap.size, 9, none⟩ = some (.int .i64 (cn : Int)) := by rw [cell_of_heap hhe]; rfl
      have nu : u3.ownBlock ≠ some wr.heap.size := fun e => by have := (hO.out.lt _ e).2; omega
      have HTA : Hid (Calls Tryz.prog 100 #[.agg #[.int .i64 (kn : Int), .string wd, .int .i64 (cn : Int)]] wa.drew fun e w' => e = .returned (.string tx) ∧ Below wa.drew.heap.size wa.drew w') := HT.out _ hba.drew
      have HBA : Hid (Below w.heap.size w wa) := hB.out.trans (hba.mono hB.out.size)
      have hOa : wa.ownsRow w.heap.size 68 3 u3 j (ownOps me (log.take j)) := (Upd.of_below (S := []) hba).owns hO.out (by simp)
      have HOA : Hid (wa.ownsRow w.heap.size 68 3 u3 j (ownOps me (log.take j))) := hOa
      have hwl : w.heap.size ≤ wa.heap.size := HBA.out.size
      have hel : wr.heap.size < wa.heap.size := by rw [hwa]; simp
      clear hhe hba hOa e0 e1 e2 e3 e4 e5 e6 e7 e8 e9 HT q4
      rw [← hwa]
      clear hwa
      generalize wr.heap.size = eb at *
      go_region_held3 (fun w' => w'.cell? ⟨eb, 0, none⟩ = some (.int .i64 (me : Int)) ∧ w'.cell? ⟨eb, 1, none⟩ = some (.int .i64 ((j : Int) + 1)) ∧ w'.cell? ⟨eb, 7, none⟩ = some (.int .i64 (kn : Int)) ∧ w'.cell? ⟨eb, 8, none⟩ = some (.string wd) ∧ w'.cell? ⟨eb, 9, none⟩ = some (.int .i64 (cn : Int)))
        (first
          | exact ⟨a0, a1, a7, a8, a9⟩
          | exact ⟨cell_below hb5 a0, cell_below hb5 a1, cell_below hb5 a7, cell_below hb5 a8, cell_below hb5 a9⟩
          | go_keep
          | (refine ⟨?_, ?_, ?_, ?_, ?_⟩ <;> (rw [hgrow.cell_far _ (by first | (simp; done) | (simp; omega)) (Ne.symm nu), World.cell?_alloc_past _ _ _ (by omega)]; first | exact cell_below hb5 a0 | exact cell_below hb5 a1 | exact cell_below hb5 a7 | exact cell_below hb5 a8 | exact cell_below hb5 a9)))
        (first
          | (go_at_call 100; refine HTA.out.mono ?_; rintro e w5 ⟨rfl, hb5⟩; have l5 : wa.heap.size ≤ w5.heap.size := hb5.size)
          | (refine step_append_lies _ (by rfl) _ _ _ (by rfl) w.heap.size 68 i0 _ 3 32 Tryz.underlying62 hi0 hz0 hz1 hz2 rfl (by omega) u3 j (ownOps me (log.take j)) (by rfl) ((Upd.alloc (Upd.of_below (S := []) (((Below.refl _ wa).drew).trans hb5)) _).owns HOA.out (by simp))
              ⟨w5.heap.size, 0, none⟩ 1 1 [.int .i64 (me : Int), .int .i64 ((j : Int) + 1), .string tx] (by rfl) (by rfl) (World.news_of_block (cs := #[.int .i64 (me : Int), .int .i64 ((j : Int) + 1), .string tx]) (t := 68) (fr := (0, 0)) (heap_alloc_new w5 _)) (by simp [Value.oneCell'])
              (by omega) (by unfold maxLen; omega) (by omega) (by simp; omega) (w5.heap.size + 1) (by simp) ?_; intro g6 cap6 w6 hown6 hgrow hat6 hlt6))
      go_wp2
      go_roundw
      case rel =>
        have hub : Upd [u3.ownBlock] wa w6 := (((Upd.of_below (S := [u3.ownBlock]) (((Below.refl _ wa).drew).trans hb5)).alloc _).grown hgrow fun b hb => .inl (by simp [hb]))
        refine ⟨j + 1, by omega, by go_num, ?_, ?_⟩
        · show w6.ownsRow _ _ _ _ _ _
          rw [HS.out]; exact hown6
        · refine ⟨hub.os.trans HBA.out.os, hub.tape.trans HBA.out.tape, hub.output.trans HBA.out.output, Nat.le_trans HBA.out.size hub.size, fun b hb => (hub.block b (Nat.lt_of_lt_of_le hb HBA.out.size) ?_).trans (HBA.out.block b hb)⟩
          intro hm
          have := (HOA.out.lt b (List.mem_singleton.1 hm).symm).1
          omega
      case measure => simp [intOf]; omega
    · obtain rfl : j = log.length := by omega
      rw [List.take_length] at hO
      obtain ⟨pv, cv, hvv⟩ : ∃ p c, u3 = .slice p log.length c := by
        rcases hO.out.2 with ⟨h1, h0⟩ | ⟨g, cap', _, h1, _⟩
        · rw [h0]; exact ⟨_, _, h1⟩
        · exact ⟨_, _, h1⟩
      subst hvv
      go_wp2_with fail
      go_ret
      exact ⟨pv, cv, rfl, hO.out, hB.out⟩

end Go.Proofs.YtckmppkdpnhodaaGreatDoor

namespace Go.Proofs.YtckmppkdpnhodaaGreatDoor
set_option linter.unusedVariables false
set_option linter.unusedSimpArgs false
open Go.RowKit Go.Proofs Go.MuLone

theorem size_setCell (w : World) (a : Addr) (v : Value) : (w.setCell a v).heap.size = w.heap.size := by simp [World.setCell]

/-- Locked, then something that makes memory alone, then unlocked: nothing old has turned. -/
theorem relock {w w2 : World} {rb : Nat} {C : Array Value} {T : TypeId} (h : w.heap[rb]? = some (.cells C T (0, 0))) (h0 : C[0]? = some (.int .i32 0)) (hb : Below w.heap.size (w.setCell ⟨rb, 0, none⟩ (.int .i32 1)) w2) :
    Below w.heap.size w (w2.setCell ⟨rb, 0, none⟩ (.int .i32 0)) := by
  have hl := (Array.getElem?_eq_some_iff.1 h).1
  have hs : w.heap.size ≤ w2.heap.size := by have := hb.size; rwa [size_setCell] at this
  refine ⟨hb.os, hb.tape, hb.output, by rw [size_setCell]; exact hs, fun b hbl => ?_⟩
  by_cases hbr : b = rb
  · subst hbr
    have h1 : w2.heap[b]? = some (.cells (C.setIfInBounds 0 (.int .i32 1)) T (0, 0)) := (hb.block b hbl).trans (heap_setCell_same h _)
    rw [heap_setCell_same h1, h]
    congr 2
    apply Array.ext_getElem?
    intro i
    have hc := (Array.getElem?_eq_some_iff.1 h0).1
    by_cases hi : i = 0
    · subst hi
      rw [Array.getElem?_setIfInBounds_self_of_lt (by simpa using hc), h0]
    · rw [Array.getElem?_setIfInBounds_ne (fun e => hi e.symm), Array.getElem?_setIfInBounds_ne (fun e => hi e.symm)]
  · rw [Below.heap_setCell _ _ _ _ hbr, hb.block b hbl, Below.heap_setCell _ _ _ _ hbr]

theorem VerbsAt.lock {w : World} (h : VerbsAt w) {rb : Nat} (hr : rb ≠ 0) (v : Value) (o : Nat) : VerbsAt (w.setCell ⟨rb, o, none⟩ v) := fun k => by
  have := h k
  rw [← this]
  exact World.cell?_of_block (a := ⟨0, k.num, none⟩) (Below.heap_setCell _ _ _ _ (fun e => hr e.symm))

theorem RepM.ne0 {w : World} {rb n me : Nat} {log : List Cm} {F : Nat → Prop} {ev wv : Value} (h : RepM w rb n me log F ev wv) (hv : VerbsAt w) : rb ≠ 0 := fun e => by
  subst e
  have := hv .closed
  rw [show (Kd.num Go.Tcp.closed) = 0 from rfl, cell_of_heap h.rbk] at this
  simp [repC] at this

set_option maxRecDepth 100000 in
set_option maxHeartbeats 2000000 in
theorem known_rep {w : World} {rb n me : Nat} {log : List Cm} {F : Nat → Prop} (hv : VerbsAt w) (h : RepR w rb n me log F) :
    Calls Tryz.prog 28 #[.pointer (some ⟨rb, 0, none⟩)] w fun e w' => ∃ p cap, e = .returned (.slice p log.length cap) ∧ w'.ownsRow w.heap.size 68 3 (.slice p log.length cap) log.length (ownOps me log) ∧ Below w.heap.size w w' := by
  obtain ⟨ev, wv, hm⟩ := h
  have hr0 := hm.ne0 hv
  have hrl := (Array.getElem?_eq_some_iff.1 hm.rbk).1
  have c0 : w.cell? ⟨rb, 0, none⟩ = some (.int .i32 0) := by rw [cell_of_heap hm.rbk]; rfl
  have f0 : w.frozen? ⟨rb, 0, none⟩ = false := frozen_of_heap hm.rbk 0
  have hk1 := heap_setCell_same (o := 0) hm.rbk (.int .i32 1)
  have HO : Hid (Calls Tryz.prog 55 #[.pointer (some ⟨rb, 4, none⟩)] (w.setCell ⟨rb, 0, none⟩ (.int .i32 1)) fun e w' => ∃ p cap, e = .returned (.slice p log.length cap) ∧ w'.ownsRow w.heap.size 68 3 (.slice p log.length cap) log.length (ownOps me log) ∧ Below w.heap.size (w.setCell ⟨rb, 0, none⟩ (.int .i32 1)) w') := by
    have := ops_of rb me log ev (w.setCell ⟨rb, 0, none⟩ (.int .i32 1)) (hv.lock hr0 _ _) (by rw [cell_of_heap hk1]; rfl) (owns_setCell_other hm.erow (fun b hb => (hm.eF b hb).2) _) hm.le8 hm.ok
    rwa [size_setCell] at this
  have HM : Hid (w.heap[rb]? = some (.cells (repC n me log.length ev wv) 113 (0, 0))) := hm.rbk
  clear hm hk1 hv
  go_enter_defers Tryz.func28, Tryz.ntmps28
  go_wp2_with (first
    | (go_at_call 44; refine (lock_free muLib ⟨rb, 0, none⟩ _ c0 f0).mono ?_; rintro e w' ⟨rfl, rfl⟩)
    | (go_at_call 55; refine HO.out.mono ?_; rintro e w2 ⟨p, cap, rfl, hown, hb⟩))
  refine leaves_cons (f := 45) (args := #[.pointer (some ⟨rb, 0, none⟩)]) (by simp) (by simp [go_sem]) ?_
  have hk2 : w2.heap[rb]? = some (.cells ((repC n me log.length ev wv).setIfInBounds 0 (.int .i32 1)) 113 (0, 0)) := (hb.block rb hrl).trans (heap_setCell_same HM.out _)
  refine (unlock_deferred muLib ⟨rb, 0, none⟩ .returning _ (by rw [cell_of_heap hk2]; rfl) (frozen_of_heap hk2 0)).mono ?_
  rintro e u' w'' ⟨rfl, rfl, rfl⟩
  refine ⟨_, results_tmp rfl _ _ _, p, cap, rfl, ?_, relock HM.out rfl hb⟩
  exact owns_setCell_other hown (fun b hb' => by have := (hown.lt b hb').1; show b ≠ rb; omega) _

end Go.Proofs.YtckmppkdpnhodaaGreatDoor

namespace Go.Proofs.YtckmppkdpnhodaaGreatDoor
set_option linter.unusedVariables false
set_option linter.unusedSimpArgs false
open Go.RowKit Go.Proofs Go.Maps

/-- Every element reads as itself. -/
def heldR : Value → Option (DataW Value × List MemPlace) := fun v => some (.held v, [])

def MapIs (w : World) (b n : Nat) (f : List UInt8 → Option Value) : Prop :=
  ∃ D : DataW Value, w.ownsMap Tryz.prog 9 heldR b n D ∧ (∀ s, has D (.string s) = (f s).isSome) ∧ ∀ s v, f s = some v → ∀ z, D.atKey (.string s) z = .held v

theorem str_keyed : Keyed Tryz.prog 9 := string_keyed Tryz.underlying9

theorem MapIs.made (w : World) : MapIs (w.alloc (.map #[] 0)) w.heap.size 0 (fun _ => none) :=
  ⟨.map [], World.ownsMap_made w _ _ _, fun _ => rfl, fun _ _ h => by cases h⟩

theorem MapIs.lt {w : World} {b n : Nat} {f : List UInt8 → Option Value} (h : MapIs w b n f) : b < w.heap.size := by
  obtain ⟨D, hD, -⟩ := h
  exact hD.lt

theorem MapIs.same {w w' : World} {b n : Nat} {f : List UInt8 → Option Value} (h : MapIs w b n f) (hs : w'.heap[b]? = w.heap[b]?) : MapIs w' b n f := by
  obtain ⟨D, ⟨es, clock, hb, F, hn, hD⟩, h2, h3⟩ := h
  exact ⟨D, ⟨es, clock, hs.trans hb, F, hn, hD⟩, h2, h3⟩

theorem MapIs.below {w w' : World} {b n : Nat} {f : List UInt8 → Option Value} (h : MapIs w b n f) (hb : Below w.heap.size w w') : MapIs w' b n f := h.same (hb.block b h.lt)

theorem MapIs.mono {w : World} {b n n' : Nat} {f : List UInt8 → Option Value} (h : MapIs w b n f) (hn : n ≤ n') : MapIs w b n' f := by
  obtain ⟨D, hD, h2, h3⟩ := h
  exact ⟨D, hD.mono hn, h2, h3⟩

theorem held_val {D : DataW Value} {f : List UInt8 → Option Value} (h2 : ∀ s, has D (.string s) = (f s).isSome) (h3 : ∀ s v, f s = some v → ∀ z, D.atKey (.string s) z = .held v) {v z : Value} {ps : List MemPlace} {s : List UInt8} (hv : heldR v = some (D.atKey (.string s) (.held z), ps)) : v = (f s).getD z := by
  simp only [heldR, Option.some.injEq, Prod.mk.injEq] at hv
  have hv1 := hv.1
  cases hf : f s with
  | none =>
    have hh := h2 s
    rw [hf] at hh
    rw [atKey_of_not_has hh] at hv1
    simpa using hv1
  | some y =>
    rw [h3 _ _ hf] at hv1
    simpa using hv1

theorem isKey_str (s : List UInt8) : WideAt.IsKeyLit (.string s) := trivial

theorem MapIs.look {w : World} {b n : Nat} {f : List UInt8 → Option Value} (h : MapIs w b n f) {t e : TypeId} (ht : Tryz.prog.underlying t = some (.map 9 e)) {z : Value} (hz : (zeroValue e).run Tryz.prog w = .ok z w) (s : ByteArray) (hs : s.size ≤ maxLen) :
    (Instr.lookup t (.map (some b)) (.string s) false).run Tryz.prog w = .ok ((f s.data.toList).getD z) w := by
  obtain ⟨D, hD, h2, h3⟩ := h
  obtain ⟨v, ps, hr, hv⟩ := hD.lookup str_keyed ht hz (zd := .held z) (zp := []) rfl (WideMaps.keyOf_string_mk Tryz.underlying9 hs)
  rw [hr, held_val h2 h3 hv]

theorem MapIs.lookOk {w : World} {b n : Nat} {f : List UInt8 → Option Value} (h : MapIs w b n f) {t e : TypeId} (ht : Tryz.prog.underlying t = some (.map 9 e)) {z : Value} (hz : (zeroValue e).run Tryz.prog w = .ok z w) (s : ByteArray) (hs : s.size ≤ maxLen) :
    (Instr.lookup t (.map (some b)) (.string s) true).run Tryz.prog w = .ok (.tuple #[(f s.data.toList).getD z, .bool (f s.data.toList).isSome]) w := by
  obtain ⟨D, hD, h2, h3⟩ := h
  obtain ⟨v, ps, hr, hv⟩ := hD.look_ok str_keyed ht hz (zd := .held z) (zp := []) rfl (WideMaps.keyOf_string_mk Tryz.underlying9 hs)
  rw [hr, h2, held_val h2 h3 hv]

/-- A function from strings, at one of them another value. -/
def fput (f : List UInt8 → Option Value) (s : List UInt8) (v : Value) : List UInt8 → Option Value := fun x => if x = s then some v else f x

theorem MapIs.put {w : World} {b n : Nat} {f : List UInt8 → Option Value} (h : MapIs w b n f) {t e : TypeId} (ht : Tryz.prog.underlying t = some (.map 9 e)) (hn : n < maxLen) (s : ByteArray) (hs : s.size ≤ maxLen) (v : Value) :
    ∃ w', (Instr.mapUpdate t (.map (some b)) (.string s) v).run Tryz.prog w = .ok () w' ∧ MapIs w' b (n + 1) (fput f s.data.toList v) ∧ w.grownBy w' (some b) := by
  obtain ⟨D, hD, h2, h3⟩ := h
  obtain ⟨w', hr, hD', hg⟩ := hD.update str_keyed ht hn (WideMaps.keyOf_string_mk Tryz.underlying9 hs) (d := .held v) (ps := []) rfl
  have hm := hD.isMap
  refine ⟨w', hr, ⟨_, hD', fun x => ?_, fun x y hy z => ?_⟩, hg⟩
  · by_cases hx : x = s.data.toList
    · subst hx; rw [has_put_same hm (isKey_str _)]; simp [fput]
    · rw [has_put_other (fun e => hx (by cases e; rfl)), h2]; simp [fput, hx]
  · by_cases hx : x = s.data.toList
    · subst hx
      simp only [fput, if_pos, Option.some.injEq] at hy
      rw [atKey_put_same hm (isKey_str _), hy]
    · simp only [fput, if_neg hx] at hy
      rw [atKey_put_other (fun e => hx (by cases e; rfl)), h3 x y hy]

/-- The keys: each once. -/
theorem MapIs.keys {w : World} {b n : Nat} {f : List UInt8 → Option Value} (h : MapIs w b n f) :
    ∃ D : DataW Value, w.ownsMap Tryz.prog 9 heldR b n D ∧ Maps.size D ≤ n ∧ (strKeys D).Nodup ∧ ∀ s, s ∈ strKeys D ↔ (f s).isSome = true := by
  obtain ⟨D, hD, h2, h3⟩ := h
  obtain ⟨es, hes, hap⟩ := hD.tidy str_keyed
  obtain ⟨es', hes', hk'⟩ := hD.keysOf
  have he : es' = es := by rw [hes] at hes'; injection hes' with h; exact h.symm
  subst he
  have hk : ∀ p ∈ es', ∃ x, p.1 = .string x := fun p hp => by
    obtain ⟨v, hv⟩ := hk' p hp
    obtain ⟨x, -, hx, -⟩ := Maps.keyOf_str Tryz.underlying9 hv
    exact ⟨x, hx⟩
  refine ⟨D, hD, hD.size_le, ?_, fun s => ?_⟩
  · rw [hes]
    show (es'.map fun p => Go.strOf p.1).Nodup
    refine List.pairwise_map.2 (hap.imp_of_mem fun {p q} hp' hq' hne e => hne ?_)
    obtain ⟨a, ha⟩ := hk p hp'
    obtain ⟨b, hb⟩ := hk q hq'
    rw [ha, hb] at e ⊢
    exact congrArg _ e
  · rw [← h2, hes, has_eq, List.any_eq_true]
    show s ∈ es'.map (fun p => Go.strOf p.1) ↔ _
    rw [List.mem_map]
    refine ⟨fun ⟨p, hp, e⟩ => ⟨p, hp, ?_⟩, fun ⟨p, hp, e⟩ => ⟨p, hp, ?_⟩⟩
    · obtain ⟨a, ha⟩ := hk p hp
      rw [ha] at e ⊢
      simp only [Go.strOf] at e
      subst e
      exact WideAt.sameKey_self (isKey_str _)
    · obtain ⟨a, ha⟩ := hk p hp
      have := (WideAt.sameKey_iff (isKey_str s)).1 e
      rw [this]; rfl

end Go.Proofs.YtckmppkdpnhodaaGreatDoor
