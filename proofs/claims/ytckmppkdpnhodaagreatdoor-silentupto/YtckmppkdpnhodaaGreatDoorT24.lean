/-
  (*Box).Take. wire.seal.
-/
import Derived.Test.YtckmppkdpnhodaaGreatDoorT23
import Derived.Test.YtckmppkdpnhodaaGreatDoorT17
import Derived.Test.YtckmppkdpnhodaaGreatDoorT21
namespace Go.Proofs.YtckmppkdpnhodaaGreatDoor
set_option linter.unusedVariables false
set_option linter.unusedSimpArgs false
open Go.RowKit Go.Proofs

attribute [local go_sem ↓] Go.wp_at_zero Go.wp_at_succ

theorem Tryz.info_mail : (Tryz.prog.info? 137).map (fun i => (i.zero, i.size, i.bytes)) = some (some (.agg #[.int .i64 0, .slice none 0 0]), 2, 32) := by kernel_rfl

/-- The cells of mail. -/
def mailRow (vs : Nat → Value) (ts : List Nat) : List Value := ts.flatMap fun (t : Nat) => [.int .i64 ((t : Nat) : Int), vs t]

theorem mailRow_snoc (vs : Nat → Value) (ts : List Nat) (t : Nat) : mailRow vs (ts ++ [t]) = mailRow vs ts ++ [.int .i64 (t : Int), vs t] := by simp [mailRow]

/-- To whom of the first i mail goes. -/
def mailTo (D : Nat → List En) (ow : Nat → Bool) (i : Nat) : List Nat := (List.range i).filter fun t => decide (0 < (D t).length) || ow t

theorem mailTo_yes {D : Nat → List En} {ow : Nat → Bool} {i : Nat} (h : 0 < (D i).length ∨ ow i = true) : mailTo D ow (i + 1) = mailTo D ow i ++ [i] := by
  unfold mailTo
  rw [List.range_succ, List.filter_append]
  rcases h with h | h <;> simp [h]

theorem mailTo_no {D : Nat → List En} {ow : Nat → Bool} {i : Nat} (h : (D i).length = 0) (h' : ow i = false) : mailTo D ow (i + 1) = mailTo D ow i := by
  unfold mailTo
  rw [List.range_succ, List.filter_append]
  simp [h, h']

theorem mailTo_le (D : Nat → List En) (ow : Nat → Bool) (i : Nat) : (mailTo D ow i).length ≤ i := by
  unfold mailTo
  have := List.length_filter_le (fun t => decide (0 < (D t).length) || ow t) (List.range i)
  simpa using this

/-- What Take leaves. -/
structure TakeTo (w : World) (rb n me : Nat) (lk : Int) (log : List En) (now : Nat) (its0 : List It) (ow : Nat → Bool) (ev wv0 : Value) (D : Nat → List En) (vs : Nat → Value) (its : List It) (wv mv : Value) (W : World) : Prop where
  rep : RepQ W rb n me lk log now its (fun _ => false) ev wv
  its : its.Perm (its0.map (laterI now))
  own : ∀ b, wv.ownBlock = some b → wv0.ownBlock = some b ∨ w.heap.size ≤ b
  due : ∀ t x, t < 5 → (x ∈ D t ↔ ∃ p ∈ its0, p.due ≤ now ∧ p.to = t ∧ p.en = x)
  len : ∀ t, t < 5 → (D t).length ≤ 12
  row : ∀ t, t < 5 → W.ownsRow w.heap.size 122 10 (vs t) (D t).length (enRow (D t))
  mail : W.ownsRow w.heap.size 137 2 mv (mailTo D ow 5).length (mailRow vs (mailTo D ow 5))
  upd : Upd [some rb, wv0.ownBlock] w W

theorem repG_clear (lk : Int) (n me : Nat) (r : Rc) (now : Nat) (ow : Nat → Bool) (ev wv : Value) : (((((repG lk n me r now ow ev wv).setIfInBounds 12 (.bool false)).setIfInBounds 13 (.bool false)).setIfInBounds 14 (.bool false)).setIfInBounds 15 (.bool false)).setIfInBounds 16 (.bool false) = repG lk n me r now (fun _ => false) ev wv := by simp [repG]

theorem take_end {w w1 wr : World} {rb n me : Nat} {lk : Int} {log : List En} {now : Nat} {its0 : List It} {ow : Nat → Bool} {ev wv0 : Value} (hm : RepQ w rb n me lk log now its0 ow ev wv0) {D : Nat → List En} {vs : Nat → Value} {its : List It} {wv mv : Value} (h : DueTo w rb (repG lk n me (reachOf log) now ow ev wv0) 113 wv0 now its0 D vs its wv w1)
    (hb : Below w1.heap.size w1 wr) (hr : wr.ownsRow w1.heap.size 137 2 mv (mailTo D ow 5).length (mailRow vs (mailTo D ow 5))) :
    TakeTo w rb n me lk log now its0 ow ev wv0 D vs its wv mv (((((wr.setCell ⟨rb, 12, none⟩ (.bool false)).setCell ⟨rb, 13, none⟩ (.bool false)).setCell ⟨rb, 14, none⟩ (.bool false)).setCell ⟨rb, 15, none⟩ (.bool false)).setCell ⟨rb, 16, none⟩ (.bool false)) := by
  have hrl := hm.lt
  have hs1 := h.upd.size
  have hq := h.q.below hb
  have k0 : wr.heap[rb]? = some (.cells (repG lk n me (reachOf log) now ow ev wv) 113 (0, 0)) := by rw [hq.rbk, repG_box]
  have k1 := heap_setCell_same (o := 12) k0 (.bool false)
  have k2 := heap_setCell_same (o := 13) k1 (.bool false)
  have k3 := heap_setCell_same (o := 14) k2 (.bool false)
  have k4 := heap_setCell_same (o := 15) k3 (.bool false)
  have k5 := heap_setCell_same (o := 16) k4 (.bool false)
  rw [repG_clear] at k5
  have u : Upd [some rb] wr (((((wr.setCell ⟨rb, 12, none⟩ (.bool false)).setCell ⟨rb, 13, none⟩ (.bool false)).setCell ⟨rb, 14, none⟩ (.bool false)).setCell ⟨rb, 15, none⟩ (.bool false)).setCell ⟨rb, 16, none⟩ (.bool false)) := (((((Upd.refl _ wr).setCell (.inl (by simp)) _).setCell (.inl (by simp)) _).setCell (.inl (by simp)) _).setCell (.inl (by simp)) _).setCell (.inl (by simp)) _
  generalize (((((wr.setCell ⟨rb, 12, none⟩ (.bool false)).setCell ⟨rb, 13, none⟩ (.bool false)).setCell ⟨rb, 14, none⟩ (.bool false)).setCell ⟨rb, 15, none⟩ (.bool false)).setCell ⟨rb, 16, none⟩ (.bool false)) = W at u k5
  have u1 : Upd [some rb, wv0.ownBlock] w wr := h.upd.below hb
  have uf : Upd [some rb, wv0.ownBlock] w W := u1.trans u fun i hi => .inl (by simp at hi; simp [hi])
  have ne : ∀ b, b ≠ rb → some b ∉ [some rb] := fun b hb hm => by simp at hm; exact hb hm
  refine ⟨⟨k5, uf.owns hm.erow fun b hb hmem => ?_, hm.eN, u.owns hq.row fun b hb => ne b fun e => h.q.ne (by rw [hb, e]), h.q.ne, fun b hb e => ?_, h.heap⟩, h.its, h.own, h.due, h.len, fun t ht => u.owns ((Upd.of_below (S := []) hb).owns (h.row t ht) (by simp)) fun b hb => ne b (by have := own_ge (h.row t ht) hb; omega), owns_base (u.owns hr fun b hb => ne b (by have := own_ge hr hb; omega)) (by omega), uf⟩
  · simp only [List.mem_cons, List.not_mem_nil, or_false, Option.some.injEq] at hmem
    rcases hmem with e | e
    · exact hm.eN (by rw [hb, e])
    · exact hm.ew b e.symm hb
  · rcases h.own b hb with h1 | h1
    · exact hm.ew b h1 e
    · have := (hm.erow.lt b e).2; omega

set_option maxRecDepth 100000 in
set_option maxHeartbeats 8000000 in
theorem boxTakeG {w : World} {rb n me : Nat} {lk : Int} {log : List En} {now : Nat} {its0 : List It} {ow : Nat → Bool} {ev wv0 : Value} (hm : RepQ w rb n me lk log now its0 ow ev wv0) (hl : its0.length ≤ 900) (h12 : ∀ t, cntI its0 t ≤ 12) (hnow : now + 1 < 1152921504606846976) :
    Calls Tryz.prog 56 #[.pointer (some ⟨rb, 10, none⟩)] w fun e w' => ∃ mv D vs its wv, e = .returned mv ∧ TakeTo w rb n me lk log now its0 ow ev wv0 D vs its wv mv w' := by
  obtain ⟨iM, hi0, hi1, hi2, hi3⟩ := info_parts Tryz.info_mail
  have hrl := hm.lt
  have HM : Hid (RepQ w rb n me lk log now its0 ow ev wv0) := hm
  have HTD : Hid (Calls Tryz.prog 101 #[.pointer (some ⟨rb, 10, none⟩)] w fun e w' => ∃ vs D its wv, e = .returned (.agg #[vs 0, vs 1, vs 2, vs 3, vs 4]) ∧ Hid (DueTo w rb (repG lk n me (reachOf log) now ow ev wv0) 113 wv0 now its0 D vs its wv w')) := takeDueG rb its0 hl h12 now hnow wv0 _ _ w hm.qat hm.heap rfl
  clear hm
  go_enter Tryz.func56, Tryz.ntmps56
  go_wp2_with (go_at_call 101; refine HTD.out.mono ?_; rintro e w1 ⟨vs, D, its, wv, rfl, HD⟩)
  have hs1 : w.heap.size ≤ w1.heap.size := HD.out.upd.size
  have i0 : ∀ W, (Instr.index 196 (.agg #[vs 0, vs 1, vs 2, vs 3, vs 4]) (.int .i64 0)).run Tryz.prog W = .ok (vs 0) W := fun _ => by kernel_rfl
  have i1 : ∀ W, (Instr.index 196 (.agg #[vs 0, vs 1, vs 2, vs 3, vs 4]) (.int .i64 1)).run Tryz.prog W = .ok (vs 1) W := fun _ => by kernel_rfl
  have i2 : ∀ W, (Instr.index 196 (.agg #[vs 0, vs 1, vs 2, vs 3, vs 4]) (.int .i64 2)).run Tryz.prog W = .ok (vs 2) W := fun _ => by kernel_rfl
  have i3 : ∀ W, (Instr.index 196 (.agg #[vs 0, vs 1, vs 2, vs 3, vs 4]) (.int .i64 3)).run Tryz.prog W = .ok (vs 3) W := fun _ => by kernel_rfl
  have i4 : ∀ W, (Instr.index 196 (.agg #[vs 0, vs 1, vs 2, vs 3, vs 4]) (.int .i64 4)).run Tryz.prog W = .ok (vs 4) W := fun _ => by kernel_rfl
  go_loopw [3, 8] (fun v i wr => ∃ k : Nat, k ≤ 5 ∧ i = .int .i64 (k : Int) ∧ Hid (wr.ownsRow w1.heap.size 137 2 v (mailTo D ow k).length (mailRow vs (mailTo D ow k)) ∧ Below w1.heap.size w1 wr)) (fun _ i _ => 5 - (intOf i).toNat)
  case atStart => exact ⟨0, by omega, rfl, ⟨by simp [mailTo, mailRow], .inl ⟨rfl, by simp [mailTo]⟩⟩, Below.refl _ _⟩
  case round =>
    obtain ⟨k, hk, rfl, HI⟩ := hrel
    have hsr : w1.heap.size ≤ wr.heap.size := HI.out.2.size
    have hq := HD.out.q.below HI.out.2
    by_cases hlt : k < 5
    · have oc : wr.cell? ⟨rb, 12 + k, none⟩ = some (.bool (ow k)) := by rw [cell_of_heap hq.rbk, repG_box]; exact repG_owed _ _ _ _ _ _ _ _ hlt
      obtain ⟨pk, ck, hvk⟩ := own_form (HD.out.row k hlt)
      have hml := mailTo_le D ow k
      have HAL : Hid (wr.ownsRow w1.heap.size 137 2 u3 (mailTo D ow k).length (mailRow vs (mailTo D ow k))) := HI.out.1
      have HBL : Hid (Below w1.heap.size w1 wr) := HI.out.2
      clear hq
      have HAP : Hid ((0 < (D k).length ∨ ow k = true) → ∀ (g cap : Nat) (o : Obj) (w5 : World), w5.ownsRow w1.heap.size 137 2 (.slice (some ⟨g, 0, none⟩) ((mailTo D ow k).length + 1) cap) ((mailTo D ow k).length + 1) (mailRow vs (mailTo D ow k) ++ [.int .i64 (k : Int), .slice pk (D k).length ck]) → (wr.alloc o).grownBy w5 u3.ownBlock → w5.ownsRow w1.heap.size 137 2 (.slice (some ⟨g, 0, none⟩) ((mailTo D ow k).length + 1) cap) (mailTo D ow (k + 1)).length (mailRow vs (mailTo D ow (k + 1))) ∧ Below w1.heap.size w1 w5) := fun hy g cap o w5 ho hg => by
        refine ⟨by rw [mailTo_yes hy, mailRow_snoc, List.length_append, hvk]; exact ho, ?_⟩
        have u5 : Upd [u3.ownBlock] wr w5 := ((Upd.refl _ wr).alloc o).grown hg fun b hb => .inl (by simp [hb])
        have hb := HBL.out
        exact ⟨u5.os.trans hb.os, u5.tape.trans hb.tape, u5.output.trans hb.output, Nat.le_trans hb.size u5.size, fun b hbl => (u5.block b (by omega) fun hmm => by
          simp only [List.mem_cons, List.not_mem_nil, or_false] at hmm
          have := own_ge HAL.out hmm.symm
          omega).trans (hb.block b hbl)⟩
      have HNO : Hid ((D k).length = 0 → ow k = false → wr.ownsRow w1.heap.size 137 2 u3 (mailTo D ow (k + 1)).length (mailRow vs (mailTo D ow (k + 1))) ∧ Below w1.heap.size w1 wr) := fun h1 h2 => by rw [mailTo_no h1 h2]; exact ⟨HAL.out, HBL.out⟩
      have HAA : Hid (∀ o, (wr.alloc o).ownsRow w1.heap.size 137 2 u3 (mailTo D ow k).length (mailRow vs (mailTo D ow k))) := fun o => (Upd.alloc (Upd.refl [] wr) o).owns HAL.out (by simp)
      have hdk := HD.out.len k hlt
      generalize (D k).length = dl at *
      generalize ow k = ok at *
      rcases (show k = 0 ∨ k = 1 ∨ k = 2 ∨ k = 3 ∨ k = 4 by omega) with rfl | rfl | rfl | rfl | rfl
      · have j0 : ∀ W, (Instr.index 196 (.agg #[vs 0, vs 1, vs 2, vs 3, vs 4]) (.int .i64 0)).run Tryz.prog W = .ok (.slice pk dl ck) W := fun W => by rw [i0 W, hvk]
        clear i0
        simp only [Nat.add_zero] at oc
        clear i1 i2 i3 i4 hvk
        by_cases hp : 0 < dl
        · have hpi : (0 : Int) < (dl : Int) := by omega
          go_wp2_with (at_builtin; refine wpList_append_lies _ rfl _ _ 134 rfl w1.heap.size 137 iM (.agg #[.int .i64 0, .slice none 0 0]) 2 32 Tryz.underlying134 hi0 hi1 hi2 hi3 rfl (by decide) u3 (mailTo D ow 0).length (mailRow vs (mailTo D ow 0)) (by rfl) (HAA.out _) ⟨wr.heap.size, 0, none⟩ 1 1 [.int .i64 0, .slice pk dl ck] (by rfl) (by rfl) (World.news_of_block (heap_alloc_new _ _)) (by simp [Value.oneCell']) (by omega) (by unfold maxLen; omega) (by omega) (by simp; omega) (wr.heap.size + 1) (by simp) ?_; intro g4 cap4 w4 ho4 hg4 hat4 hgl4)
          go_roundw
          case rel => exact ⟨1, by omega, rfl, HAP.out (.inl hp) _ _ _ _ ho4 hg4⟩
          case measure => simp [intOf]
        · obtain rfl : dl = 0 := by omega
          cases ok with
          | true =>
            go_wp2_with (at_builtin; refine wpList_append_lies _ rfl _ _ 134 rfl w1.heap.size 137 iM (.agg #[.int .i64 0, .slice none 0 0]) 2 32 Tryz.underlying134 hi0 hi1 hi2 hi3 rfl (by decide) u3 (mailTo D ow 0).length (mailRow vs (mailTo D ow 0)) (by rfl) (HAA.out _) ⟨wr.heap.size, 0, none⟩ 1 1 [.int .i64 0, .slice pk 0 ck] (by rfl) (by rfl) (World.news_of_block (heap_alloc_new _ _)) (by simp [Value.oneCell']) (by omega) (by unfold maxLen; omega) (by omega) (by simp; omega) (wr.heap.size + 1) (by simp) ?_; intro g4 cap4 w4 ho4 hg4 hat4 hgl4)
            go_roundw
            case rel => exact ⟨1, by omega, rfl, HAP.out (.inr rfl) _ _ _ _ ho4 hg4⟩
            case measure => simp [intOf]
          | false =>
            go_wp2
            go_roundw
            case rel => exact ⟨1, by omega, rfl, HNO.out rfl rfl⟩
            case measure => simp [intOf]
      · have j1 : ∀ W, (Instr.index 196 (.agg #[vs 0, vs 1, vs 2, vs 3, vs 4]) (.int .i64 1)).run Tryz.prog W = .ok (.slice pk dl ck) W := fun W => by rw [i1 W, hvk]
        clear i1
        simp only [Nat.reduceAdd] at oc
        clear i0 i2 i3 i4 hvk
        by_cases hp : 0 < dl
        · have hpi : (0 : Int) < (dl : Int) := by omega
          go_wp2_with (at_builtin; refine wpList_append_lies _ rfl _ _ 134 rfl w1.heap.size 137 iM (.agg #[.int .i64 0, .slice none 0 0]) 2 32 Tryz.underlying134 hi0 hi1 hi2 hi3 rfl (by decide) u3 (mailTo D ow 1).length (mailRow vs (mailTo D ow 1)) (by rfl) (HAA.out _) ⟨wr.heap.size, 0, none⟩ 1 1 [.int .i64 1, .slice pk dl ck] (by rfl) (by rfl) (World.news_of_block (heap_alloc_new _ _)) (by simp [Value.oneCell']) (by omega) (by unfold maxLen; omega) (by omega) (by simp; omega) (wr.heap.size + 1) (by simp) ?_; intro g4 cap4 w4 ho4 hg4 hat4 hgl4)
          go_roundw
          case rel => exact ⟨2, by omega, rfl, HAP.out (.inl hp) _ _ _ _ ho4 hg4⟩
          case measure => simp [intOf]
        · obtain rfl : dl = 0 := by omega
          cases ok with
          | true =>
            go_wp2_with (at_builtin; refine wpList_append_lies _ rfl _ _ 134 rfl w1.heap.size 137 iM (.agg #[.int .i64 0, .slice none 0 0]) 2 32 Tryz.underlying134 hi0 hi1 hi2 hi3 rfl (by decide) u3 (mailTo D ow 1).length (mailRow vs (mailTo D ow 1)) (by rfl) (HAA.out _) ⟨wr.heap.size, 0, none⟩ 1 1 [.int .i64 1, .slice pk 0 ck] (by rfl) (by rfl) (World.news_of_block (heap_alloc_new _ _)) (by simp [Value.oneCell']) (by omega) (by unfold maxLen; omega) (by omega) (by simp; omega) (wr.heap.size + 1) (by simp) ?_; intro g4 cap4 w4 ho4 hg4 hat4 hgl4)
            go_roundw
            case rel => exact ⟨2, by omega, rfl, HAP.out (.inr rfl) _ _ _ _ ho4 hg4⟩
            case measure => simp [intOf]
          | false =>
            go_wp2
            go_roundw
            case rel => exact ⟨2, by omega, rfl, HNO.out rfl rfl⟩
            case measure => simp [intOf]
      · have j2 : ∀ W, (Instr.index 196 (.agg #[vs 0, vs 1, vs 2, vs 3, vs 4]) (.int .i64 2)).run Tryz.prog W = .ok (.slice pk dl ck) W := fun W => by rw [i2 W, hvk]
        clear i2
        simp only [Nat.reduceAdd] at oc
        clear i0 i1 i3 i4 hvk
        by_cases hp : 0 < dl
        · have hpi : (0 : Int) < (dl : Int) := by omega
          go_wp2_with (at_builtin; refine wpList_append_lies _ rfl _ _ 134 rfl w1.heap.size 137 iM (.agg #[.int .i64 0, .slice none 0 0]) 2 32 Tryz.underlying134 hi0 hi1 hi2 hi3 rfl (by decide) u3 (mailTo D ow 2).length (mailRow vs (mailTo D ow 2)) (by rfl) (HAA.out _) ⟨wr.heap.size, 0, none⟩ 1 1 [.int .i64 2, .slice pk dl ck] (by rfl) (by rfl) (World.news_of_block (heap_alloc_new _ _)) (by simp [Value.oneCell']) (by omega) (by unfold maxLen; omega) (by omega) (by simp; omega) (wr.heap.size + 1) (by simp) ?_; intro g4 cap4 w4 ho4 hg4 hat4 hgl4)
          go_roundw
          case rel => exact ⟨3, by omega, rfl, HAP.out (.inl hp) _ _ _ _ ho4 hg4⟩
          case measure => simp [intOf]
        · obtain rfl : dl = 0 := by omega
          cases ok with
          | true =>
            go_wp2_with (at_builtin; refine wpList_append_lies _ rfl _ _ 134 rfl w1.heap.size 137 iM (.agg #[.int .i64 0, .slice none 0 0]) 2 32 Tryz.underlying134 hi0 hi1 hi2 hi3 rfl (by decide) u3 (mailTo D ow 2).length (mailRow vs (mailTo D ow 2)) (by rfl) (HAA.out _) ⟨wr.heap.size, 0, none⟩ 1 1 [.int .i64 2, .slice pk 0 ck] (by rfl) (by rfl) (World.news_of_block (heap_alloc_new _ _)) (by simp [Value.oneCell']) (by omega) (by unfold maxLen; omega) (by omega) (by simp; omega) (wr.heap.size + 1) (by simp) ?_; intro g4 cap4 w4 ho4 hg4 hat4 hgl4)
            go_roundw
            case rel => exact ⟨3, by omega, rfl, HAP.out (.inr rfl) _ _ _ _ ho4 hg4⟩
            case measure => simp [intOf]
          | false =>
            go_wp2
            go_roundw
            case rel => exact ⟨3, by omega, rfl, HNO.out rfl rfl⟩
            case measure => simp [intOf]
      · have j3 : ∀ W, (Instr.index 196 (.agg #[vs 0, vs 1, vs 2, vs 3, vs 4]) (.int .i64 3)).run Tryz.prog W = .ok (.slice pk dl ck) W := fun W => by rw [i3 W, hvk]
        clear i3
        simp only [Nat.reduceAdd] at oc
        clear i0 i1 i2 i4 hvk
        by_cases hp : 0 < dl
        · have hpi : (0 : Int) < (dl : Int) := by omega
          go_wp2_with (at_builtin; refine wpList_append_lies _ rfl _ _ 134 rfl w1.heap.size 137 iM (.agg #[.int .i64 0, .slice none 0 0]) 2 32 Tryz.underlying134 hi0 hi1 hi2 hi3 rfl (by decide) u3 (mailTo D ow 3).length (mailRow vs (mailTo D ow 3)) (by rfl) (HAA.out _) ⟨wr.heap.size, 0, none⟩ 1 1 [.int .i64 3, .slice pk dl ck] (by rfl) (by rfl) (World.news_of_block (heap_alloc_new _ _)) (by simp [Value.oneCell']) (by omega) (by unfold maxLen; omega) (by omega) (by simp; omega) (wr.heap.size + 1) (by simp) ?_; intro g4 cap4 w4 ho4 hg4 hat4 hgl4)
          go_roundw
          case rel => exact ⟨4, by omega, rfl, HAP.out (.inl hp) _ _ _ _ ho4 hg4⟩
          case measure => simp [intOf]
        · obtain rfl : dl = 0 := by omega
          cases ok with
          | true =>
            go_wp2_with (at_builtin; refine wpList_append_lies _ rfl _ _ 134 rfl w1.heap.size 137 iM (.agg #[.int .i64 0, .slice none 0 0]) 2 32 Tryz.underlying134 hi0 hi1 hi2 hi3 rfl (by decide) u3 (mailTo D ow 3).length (mailRow vs (mailTo D ow 3)) (by rfl) (HAA.out _) ⟨wr.heap.size, 0, none⟩ 1 1 [.int .i64 3, .slice pk 0 ck] (by rfl) (by rfl) (World.news_of_block (heap_alloc_new _ _)) (by simp [Value.oneCell']) (by omega) (by unfold maxLen; omega) (by omega) (by simp; omega) (wr.heap.size + 1) (by simp) ?_; intro g4 cap4 w4 ho4 hg4 hat4 hgl4)
            go_roundw
            case rel => exact ⟨4, by omega, rfl, HAP.out (.inr rfl) _ _ _ _ ho4 hg4⟩
            case measure => simp [intOf]
          | false =>
            go_wp2
            go_roundw
            case rel => exact ⟨4, by omega, rfl, HNO.out rfl rfl⟩
            case measure => simp [intOf]
      · have j4 : ∀ W, (Instr.index 196 (.agg #[vs 0, vs 1, vs 2, vs 3, vs 4]) (.int .i64 4)).run Tryz.prog W = .ok (.slice pk dl ck) W := fun W => by rw [i4 W, hvk]
        clear i4
        simp only [Nat.reduceAdd] at oc
        clear i0 i1 i2 i3 hvk
        by_cases hp : 0 < dl
        · have hpi : (0 : Int) < (dl : Int) := by omega
          go_wp2_with (at_builtin; refine wpList_append_lies _ rfl _ _ 134 rfl w1.heap.size 137 iM (.agg #[.int .i64 0, .slice none 0 0]) 2 32 Tryz.underlying134 hi0 hi1 hi2 hi3 rfl (by decide) u3 (mailTo D ow 4).length (mailRow vs (mailTo D ow 4)) (by rfl) (HAA.out _) ⟨wr.heap.size, 0, none⟩ 1 1 [.int .i64 4, .slice pk dl ck] (by rfl) (by rfl) (World.news_of_block (heap_alloc_new _ _)) (by simp [Value.oneCell']) (by omega) (by unfold maxLen; omega) (by omega) (by simp; omega) (wr.heap.size + 1) (by simp) ?_; intro g4 cap4 w4 ho4 hg4 hat4 hgl4)
          go_roundw
          case rel => exact ⟨5, by omega, rfl, HAP.out (.inl hp) _ _ _ _ ho4 hg4⟩
          case measure => simp [intOf]
        · obtain rfl : dl = 0 := by omega
          cases ok with
          | true =>
            go_wp2_with (at_builtin; refine wpList_append_lies _ rfl _ _ 134 rfl w1.heap.size 137 iM (.agg #[.int .i64 0, .slice none 0 0]) 2 32 Tryz.underlying134 hi0 hi1 hi2 hi3 rfl (by decide) u3 (mailTo D ow 4).length (mailRow vs (mailTo D ow 4)) (by rfl) (HAA.out _) ⟨wr.heap.size, 0, none⟩ 1 1 [.int .i64 4, .slice pk 0 ck] (by rfl) (by rfl) (World.news_of_block (heap_alloc_new _ _)) (by simp [Value.oneCell']) (by omega) (by unfold maxLen; omega) (by omega) (by simp; omega) (wr.heap.size + 1) (by simp) ?_; intro g4 cap4 w4 ho4 hg4 hat4 hgl4)
            go_roundw
            case rel => exact ⟨5, by omega, rfl, HAP.out (.inr rfl) _ _ _ _ ho4 hg4⟩
            case measure => simp [intOf]
          | false =>
            go_wp2
            go_roundw
            case rel => exact ⟨5, by omega, rfl, HNO.out rfl rfl⟩
            case measure => simp [intOf]
    · obtain rfl : k = 5 := by omega
      have hq2 := HD.out.q.below HI.out.2
      have c12 : wr.cell? ⟨rb, 12, none⟩ = some (.bool (ow 0)) := by rw [cell_of_heap hq2.rbk, repG_box]; rfl
      have c13 : wr.cell? ⟨rb, 13, none⟩ = some (.bool (ow 1)) := by rw [cell_of_heap hq2.rbk, repG_box]; rfl
      have c14 : wr.cell? ⟨rb, 14, none⟩ = some (.bool (ow 2)) := by rw [cell_of_heap hq2.rbk, repG_box]; rfl
      have c15 : wr.cell? ⟨rb, 15, none⟩ = some (.bool (ow 3)) := by rw [cell_of_heap hq2.rbk, repG_box]; rfl
      have c16 : wr.cell? ⟨rb, 16, none⟩ = some (.bool (ow 4)) := by rw [cell_of_heap hq2.rbk, repG_box]; rfl
      have cf := frozen_of_heap hq2.rbk
      clear hq2
      have HE : Hid (TakeTo w rb n me lk log now its0 ow ev wv0 D vs its wv u3 (((((wr.setCell ⟨rb, 12, none⟩ (.bool false)).setCell ⟨rb, 13, none⟩ (.bool false)).setCell ⟨rb, 14, none⟩ (.bool false)).setCell ⟨rb, 15, none⟩ (.bool false)).setCell ⟨rb, 16, none⟩ (.bool false))) := take_end HM.out HD.out HI.out.2 HI.out.1
      go_wp2
      go_ret
      exact ⟨_, D, vs, its, wv, rfl, HE.out⟩

end Go.Proofs.YtckmppkdpnhodaaGreatDoor

namespace Go.Proofs.YtckmppkdpnhodaaGreatDoor
set_option linter.unusedVariables false
set_option linter.unusedSimpArgs false
open Go.RowKit Go.Proofs

attribute [local go_sem ↓] Go.wp_at_zero Go.wp_at_succ

/-- A sum as four bytes. -/
def le4 (s : Nat) : List UInt8 := [UInt8.ofNat s, UInt8.ofNat (s / 256), UInt8.ofNat (s / 65536), UInt8.ofNat (s / 16777216)]
/-- A body with its length ahead, and the whole with its sum behind. -/
def sealB (l : List UInt8) : List UInt8 := (UInt8.ofNat (l.length + 5) :: l) ++ le4 (crcSum (UInt8.ofNat (l.length + 5) :: l))

theorem crcFold_lt (l : List UInt8) : crcFold l < 4294967296 := by
  unfold crcFold
  have : ∀ (l : List UInt8) (s : Nat), s < 4294967296 → l.foldl (fun s b => crcStep s b.toNat) s < 4294967296 := by
    intro l
    induction l with
    | nil => intro s h; exact h
    | cons x l ih => intro s h; exact ih _ (crcStep_lt h (by have := x.toNat_lt; omega))
  exact this l _ (by omega)

theorem crcSum_lt (l : List UInt8) : crcSum l < 4294967296 := xor32_lt (by omega) (crcFold_lt l)

theorem u8_int (n : Nat) : ((UInt8.ofNat n).toNat : Int) = (n : Int) % 256 := by rw [UInt8.toNat_ofNat']; omega

theorem byteCells_one {l : List UInt8} : ∀ u ∈ Lib.byteCells l, u.oneCell' = true := by
  intro u hu
  simp only [Lib.byteCells, List.mem_map] at hu
  obtain ⟨b, _, rfl⟩ := hu
  rfl

theorem byteCells_at {l : List UInt8} {j : Nat} {u : Value} (h : (Lib.byteCells l)[j]? = some u) : ∃ x, l[j]? = some x ∧ u = .int .u8 (x.toNat : Int) := by
  simp only [Lib.byteCells, List.getElem?_map, Option.map_eq_some_iff] at h
  obtain ⟨x, hx, rfl⟩ := h
  exact ⟨x, hx, rfl⟩

set_option maxRecDepth 100000 in
set_option maxHeartbeats 4000000 in
theorem sealG (b off cap : Nat) (l : List UInt8) (hl : l.length ≤ 1000000) (w : World) (hc : ∀ (i : Nat) (x : UInt8), l[i]? = some x → w.cell? ⟨b, off + i, none⟩ = some (.int .u8 (x.toNat : Int))) (hR : RemAt w) (hG : 1 < w.heap.size) :
    Calls Tryz.prog 104 #[.slice (some ⟨b, off, none⟩) l.length cap] w fun e w' => ∃ v', e = .returned v' ∧ BNew w.heap.size w v' (sealB l) w' := by
  obtain ⟨i0, hi0, hz0, hz1, hz2⟩ := info_parts Tryz.infoU8
  have HC : Hid (∀ o, ∀ (j : Nat) (u : Value), (Lib.byteCells l)[j]? = some u → (w.alloc o).cell? ((⟨b, off, none⟩ : Addr).add j) = some u) := by
    intro o j u hu
    obtain ⟨x, hx, rfl⟩ := byteCells_at hu
    have hadd : (⟨b, off, none⟩ : Addr).add j = ⟨b, off + j, none⟩ := by unfold Addr.add; split <;> simp_all
    rw [hadd]
    exact cell_below ((Below.refl _ w).alloc (Nat.le_refl _) o) (hc j x hx)
  have hbl : (Lib.byteCells l).length = l.length * 1 := by simp [Lib.byteCells]
  have HO : Hid (∀ C, C.toList = Lib.byteCells [UInt8.ofNat (l.length + 5)] → (w.alloc (.cells C 5)).ownsRow w.heap.size 5 1 (.slice (some ⟨w.heap.size, 0, none⟩) 1 1) 1 (Lib.byteCells [UInt8.ofNat (l.length + 5)])) := fun C hC => own_laid (l := [UInt8.ofNat (l.length + 5)]) (Nat.le_refl _) (heap_alloc_new w _) hC rfl (by omega)
  have HX : Hid (∀ n : Nat, ((UInt8.ofNat n).toNat : Int) = (n : Int) % 256) := u8_int
  have HR : Hid (∀ W, Below w.heap.size w W → RemAt W) := fun W hW i hi => (hW.cell (p := ⟨1, i, none⟩) hG).trans (hR i hi)
  clear hc hR
  go_enter Tryz.func104, Tryz.ntmps104
  have e5 : ((l.length + 5 : Nat) : Int) = 1 + (l.length : Int) + 4 := by omega
  have HF : Hid (Lib.byteCells [UInt8.ofNat (l.length + 5)] = [.int .u8 ((1 + (l.length : Int) + 4) % 256)]) := by
    show _ = _
    simp only [Lib.byteCells, List.map_cons, List.map_nil, HX.out, e5]
  clear e5
  go_upto_region 2 with (at_builtin; refine wpList_append_own _ rfl _ _ 55 rfl w.heap.size 5 i0 (.int .u8 0) 1 1 Tryz.underlying55 hi0 hz0 hz1 hz2 rfl (by decide) _ 1 (Lib.byteCells [UInt8.ofNat (l.length + 5)]) (by rfl) (HO.out _ HF.out.symm) ⟨b, off, none⟩ l.length cap (Lib.byteCells l) (by rfl) hbl (HC.out _) byteCells_one (by unfold maxLen; omega) (by omega) (by simp) ?_; intro v3 w3 ho3 hg3 _)
  have hb3 : BNew w.heap.size w v3 (UInt8.ofNat (l.length + 5) :: l) w3 := by
    refine ⟨?_, ((Below.refl _ w).alloc (Nat.le_refl _) _).grown hg3 (by simp) fun k hk => by cases hk; exact Nat.le_refl _⟩
    have e1 : (UInt8.ofNat (l.length + 5) :: l).length = 1 + l.length := by simp; omega
    have e2 : Lib.byteCells (UInt8.ofNat (l.length + 5) :: l) = Lib.byteCells [UInt8.ofNat (l.length + 5)] ++ Lib.byteCells l := by simp [Lib.byteCells]
    rw [e1, e2]
    exact ho3
  have hfl : (UInt8.ofNat (l.length + 5) :: l).length ≤ 1000001 := by simp; omega
  have HL : Hid (sealB l = (UInt8.ofNat (l.length + 5) :: l) ++ le4 (crcSum (UInt8.ofNat (l.length + 5) :: l))) := rfl
  clear ho3 hg3 HO HC HF hbl
  generalize UInt8.ofNat (l.length + 5) :: l = f at *
  have HS : Hid (Calls Tryz.prog 143 #[v3] w3 fun e w' => e = .returned (.int .u32 ((crcSum f : Nat) : Int)) ∧ w' = w3) := sumG v3 f (by omega) w3 (bytes_of_own hb3.row) (HR.out _ hb3.below)
  obtain ⟨pa, ca, hav⟩ := own_form hb3.row
  subst hav
  have HB3 : Hid (BNew w.heap.size w (.slice pa f.length ca) f w3) := hb3
  have hs3 := hb3.below.size
  have hcs := crcSum_lt f
  clear hb3
  generalize crcSum f = s at *
  go_upto_region 3 with (go_at_call 143; refine HS.out.mono ?_; rintro e w' ⟨rfl, rfl⟩)
  have HR3 : Hid (∀ o, (w'.alloc o).ownsRow w.heap.size 5 1 (.slice pa f.length ca) f.length (Lib.byteCells f) ∧ Below w'.heap.size w' (w'.alloc o)) := fun o => ⟨(Upd.of_below (S := []) ((Below.refl _ w').alloc (Nat.le_refl _) o)).owns HB3.out.row (by simp), (Below.refl _ w').alloc (Nat.le_refl _) o⟩
  go_wp2_with (at_builtin; refine wpList_append_lies _ rfl _ _ 55 rfl w.heap.size 5 i0 (.int .u8 0) 1 1 Tryz.underlying55 hi0 hz0 hz1 hz2 rfl (by decide) (.slice pa f.length ca) f.length (Lib.byteCells f) (by rfl) (HR3.out _).1 ⟨w'.heap.size, 0, none⟩ 4 4 [.int .u8 ((s : Int) % 256), .int .u8 ((s : Int) / 256 % 256), .int .u8 ((s : Int) / 65536 % 256), .int .u8 ((s : Int) / 16777216)] (by rfl) (by rfl) (World.news_of_block (heap_alloc_new _ _)) (by simp [Value.oneCell']) (by omega) (by unfold maxLen; omega) (by omega) (by simp; omega) (w'.heap.size + 1) (by simp) ?_; intro g4 cap4 w4 ho4 hg4 hat4 _)
  go_ret
  have b4 : Below w.heap.size w w4 := (HB3.out.below.trans ((HR3.out _).2.mono (by omega))).grown hg4 (by simp; omega) fun k hk => own_ge HB3.out.row hk
  refine ⟨_, rfl, ?_, b4⟩
  rw [HL.out]
  have e1 : Lib.byteCells (f ++ le4 s) = Lib.byteCells f ++ [.int .u8 ((s : Int) % 256), .int .u8 ((s : Int) / 256 % 256), .int .u8 ((s : Int) / 65536 % 256), .int .u8 ((s : Int) / 16777216)] := by
    have e4 : ((s : Int) / 16777216) % 256 = (s : Int) / 16777216 := by omega
    simp only [Lib.byteCells, le4, List.map_append, List.map_cons, List.map_nil, HX.out]
    rw [show ((s / 256 : Nat) : Int) = (s : Int) / 256 by omega, show ((s / 65536 : Nat) : Int) = (s : Int) / 65536 by omega, show ((s / 16777216 : Nat) : Int) = (s : Int) / 16777216 by omega, e4]
  have e2 : (f ++ le4 s).length = f.length + 4 := by simp [le4]
  rw [e1, e2]
  exact ho4

end Go.Proofs.YtckmppkdpnhodaaGreatDoor
