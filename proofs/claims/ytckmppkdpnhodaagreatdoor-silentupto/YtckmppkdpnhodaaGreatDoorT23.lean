/-
  (*Box).takeDue: the code.
-/
import Derived.Test.YtckmppkdpnhodaaGreatDoorT22
import Derived.Deep.RegionLaw
import Derived.Deep.RegionHeld3
import Derived.BigQuiet
namespace Go.Proofs.YtckmppkdpnhodaaGreatDoor
set_option linter.unusedVariables false
set_option linter.unusedSimpArgs false
open Go.RowKit Go.Proofs

attribute [local go_sem ↓] Go.wp_at_zero Go.wp_at_succ

/-- What takeDue leaves. -/
structure DueTo (w : World) (rb : Nat) (C : Array Value) (T : TypeId) (wv0 : Value) (now : Nat) (its0 : List It) (D : Nat → List En) (vs : Nat → Value) (its : List It) (wv : Value) (W : World) : Prop where
  q : QAt W rb (C.setIfInBounds 11 wv) T wv its
  heap : HeapFrom 0 its.length (kF its)
  its : its.Perm (its0.map (laterI now))
  own : ∀ b, wv.ownBlock = some b → wv0.ownBlock = some b ∨ w.heap.size ≤ b
  due : ∀ t x, t < 5 → (x ∈ D t ↔ ∃ p ∈ its0, p.due ≤ now ∧ p.to = t ∧ p.en = x)
  len : ∀ t, t < 5 → (D t).length ≤ 12
  row : ∀ t, t < 5 → W.ownsRow w.heap.size 122 10 (vs t) (D t).length (enRow (D t))
  apart : ∀ t u, t < 5 → u < 5 → t ≠ u → ∀ b, (vs t).ownBlock = some b → (vs u).ownBlock ≠ some b
  far : ∀ t, t < 5 → ∀ b, (vs t).ownBlock = some b → wv.ownBlock ≠ some b
  upd : Upd [some rb, wv0.ownBlock] w W

/-- One of the five lists is sorted. -/
theorem sort_one {w : World} {rb : Nat} {C : Array Value} {T : TypeId} {wv0 wv : Value} {its ps : List It} {db : Nat} {vs : Nat → Value} (hrl : rb < w.heap.size) (hdb : w.heap.size < db) (hwl : ∀ b, wv0.ownBlock = some b → b < w.heap.size) (h12 : ∀ t, t < 5 → (forL ps t).length ≤ 12)
    (far : ∀ t, t < 5 → ∀ b, (vs t).ownBlock = some b → wv.ownBlock ≠ some b) (_own : ∀ b, wv.ownBlock = some b → wv0.ownBlock = some b ∨ db < b) {i : Nat} (hi : i < 5) {D : Nat → List En} {wr : World}
    (h : DueD wr db D vs ∧ (∀ t, t < 5 → (D t).Perm (forL ps t)) ∧ QAt wr rb (C.setIfInBounds 11 wv) T wv its ∧ Upd [some rb, wv0.ownBlock] w wr ∧ wr.heap[w.heap.size]? = some (.cells #[.slice none 0 0, .slice none 0 0, .slice none 0 0, .slice none 0 0, .slice none 0 0] 196 (0, 0))) :
    Calls Tryz.prog 139 #[vs i, .func (.func 140) #[] #[]] wr fun e w' => e = .returned (.tuple #[]) ∧ Hid (∃ D' : Nat → List En, DueD w' db D' vs ∧ (∀ t, t < 5 → (D' t).Perm (forL ps t)) ∧ QAt w' rb (C.setIfInBounds 11 wv) T wv its ∧ Upd [some rb, wv0.ownBlock] w w' ∧ w'.heap[w.heap.size]? = some (.cells #[.slice none 0 0, .slice none 0 0, .slice none 0 0, .slice none 0 0, .slice none 0 0] 196 (0, 0))) := by
  obtain ⟨h1, h2, h3, h4, h5⟩ := h
  have hs := h4.size
  have hdl := (Array.getElem?_eq_some_iff.1 h1.blk).1
  refine (sortG (db + 1) (vs i) (D i) (by rw [(h2 i hi).length_eq]; exact h12 i hi) wr (h1.row i hi)).mono ?_
  rintro e w' ⟨rfl, es', hp, hr, hu⟩
  have hge : ∀ b, (vs i).ownBlock = some b → db < b := fun b hb => own_ge (h1.row i hi) hb
  refine ⟨rfl, fun t => if t = i then es' else D t, ⟨(hu.block db hdl fun hm => ?_).trans h1.blk, fun t ht => ?_, h1.apart⟩, fun t ht => ?_, ⟨(hu.block rb (by omega) fun hm => ?_).trans h3.rbk, h3.c11, hu.owns h3.row fun b hb hm => ?_, h3.ne⟩, h4.trans hu fun k hk => ?_, (hu.block _ (by omega) fun hm => ?_).trans h5⟩
  · simp only [List.mem_cons, List.not_mem_nil, or_false] at hm
    have := hge db hm.symm; omega
  · by_cases e : t = i
    · subst e
      simp only [if_pos]
      rw [hp.length_eq]; exact hr
    · simp only [if_neg e]
      exact hu.owns (h1.row t ht) fun b hb hm => by
        simp only [List.mem_cons, List.not_mem_nil, or_false] at hm
        exact h1.apart t i ht hi e b hb hm.symm
  · by_cases e : t = i
    · subst e; simp only [if_pos]; exact hp.trans (h2 t ht)
    · simp only [if_neg e]; exact h2 t ht
  · simp only [List.mem_cons, List.not_mem_nil, or_false] at hm
    have := hge rb hm.symm; omega
  · simp only [List.mem_cons, List.not_mem_nil, or_false] at hm
    exact far i hi b hm.symm hb
  · simp only [List.mem_cons, List.not_mem_nil, or_false] at hk
    have := hge k hk.symm; exact .inr (by omega)
  · simp only [List.mem_cons, List.not_mem_nil, or_false] at hm
    have := hge _ hm.symm; omega

/-- All are sorted, and the five are handed out. -/
theorem due_end {w w1 : World} {rb : Nat} {C : Array Value} {T : TypeId} {wv0 wv : Value} {now : Nat} {its0 its ps : List It} {db : Nat} {vs : Nat → Value} (hrl : rb < w.heap.size) (hdb : w.heap.size < db) (hwl : ∀ b, wv0.ownBlock = some b → b < w.heap.size) (hF : TakeI w rb C T wv0 now its0 db w1 its ps wv vs) (hD : ∀ p ∈ its, now < p.due) (h12 : ∀ t, t < 5 → (forL ps t).length ≤ 12) {D : Nat → List En} {wr : World}
    (h : DueD wr db D vs ∧ (∀ t, t < 5 → (D t).Perm (forL ps t)) ∧ QAt wr rb (C.setIfInBounds 11 wv) T wv its ∧ Upd [some rb, wv0.ownBlock] w wr ∧ wr.heap[w.heap.size]? = some (.cells #[.slice none 0 0, .slice none 0 0, .slice none 0 0, .slice none 0 0, .slice none 0 0] 196 (0, 0))) :
    ∀ a0 a1 a2 a3 a4, DueTo w rb C T wv0 now its0 D vs its wv (((((wr.setCell ⟨w.heap.size, 0, none⟩ a0).setCell ⟨w.heap.size, 1, none⟩ a1).setCell ⟨w.heap.size, 2, none⟩ a2).setCell ⟨w.heap.size, 3, none⟩ a3).setCell ⟨w.heap.size, 4, none⟩ a4) := fun a0 a1 a2 a3 a4 => by
  obtain ⟨h1, h2, h3, h4, h5⟩ := h
  have hs := h4.size
  have hA := (Array.getElem?_eq_some_iff.1 h5).1
  obtain ⟨rest, hp⟩ := hF.pop
  obtain ⟨d1, d2⟩ := hp.done hD
  have u : Upd [some w.heap.size] wr (((((wr.setCell ⟨w.heap.size, 0, none⟩ a0).setCell ⟨w.heap.size, 1, none⟩ a1).setCell ⟨w.heap.size, 2, none⟩ a2).setCell ⟨w.heap.size, 3, none⟩ a3).setCell ⟨w.heap.size, 4, none⟩ a4) := (((((Upd.refl _ wr).setCell (.inl (by simp)) _).setCell (.inl (by simp)) _).setCell (.inl (by simp)) _).setCell (.inl (by simp)) _).setCell (.inl (by simp)) _
  generalize (((((wr.setCell ⟨w.heap.size, 0, none⟩ a0).setCell ⟨w.heap.size, 1, none⟩ a1).setCell ⟨w.heap.size, 2, none⟩ a2).setCell ⟨w.heap.size, 3, none⟩ a3).setCell ⟨w.heap.size, 4, none⟩ a4) = W at u
  refine ⟨⟨(u.block rb (by omega) (by simp; omega)).trans h3.rbk, h3.c11, u.owns h3.row fun b hb hm => ?_, h3.ne⟩, hF.heap, d1, fun b hb => (hF.own b hb).imp id fun h => by omega, fun t x ht => ?_, fun t ht => by rw [(h2 t ht).length_eq]; exact h12 t ht, fun t ht => owns_base (u.owns (h1.row t ht) fun b hb hm => ?_) (by omega), h1.apart, hF.far, h4.trans u fun i hi => .inr (by simp at hi; omega)⟩
  · simp at hm
    rcases hF.own b hb with h | h
    · have := hwl b h; omega
    · omega
  · rw [(h2 t ht).mem_iff]
    unfold forL
    simp only [List.mem_map, List.mem_filter, decide_eq_true_eq]
    constructor
    · rintro ⟨p, ⟨hm, ht'⟩, rfl⟩
      have hm0 := hp.all.mem_iff.2 (List.mem_append_left _ hm)
      exact ⟨p, hm0, (d2 p hm0).1 hm, ht', rfl⟩
    · rintro ⟨p, hm, hd, ht', rfl⟩
      exact ⟨p, ⟨(d2 p hm).2 hd, ht'⟩, rfl⟩
  · simp at hm
    have := own_ge (h1.row t ht) hb
    omega

set_option maxRecDepth 100000 in
set_option maxHeartbeats 8000000 in
theorem takeDueG (rb : Nat) (its0 : List It) (hl : its0.length ≤ 900) (h12 : ∀ t, cntI its0 t ≤ 12) (now : Nat) (hnow : now + 1 < 1152921504606846976) (wv0 : Value) (C : Array Value) (T : TypeId) (w : World) (hq : QAt w rb C T wv0 its0) (hh : HeapFrom 0 its0.length (kF its0)) (h10 : C[10]? = some (.int .i64 (now : Int))) :
    Calls Tryz.prog 101 #[.pointer (some ⟨rb, 10, none⟩)] w fun e w' => ∃ vs D its wv, e = .returned (.agg #[vs 0, vs 1, vs 2, vs 3, vs 4]) ∧ DueTo w rb C T wv0 now its0 D vs its wv w' := by
  obtain ⟨i3, hi3, hy0, hy1, hy2⟩ := info_parts Tryz.info_entry
  have hta : ∀ v W, (Instr.typeAssert (.iface 171 v) 20 171 false).run Tryz.prog W = .ok v W := fun v W => by kernel_rfl
  have hrl : rb < w.heap.size := (Array.getElem?_eq_some_iff.1 hq.rbk).1
  have hCs : 11 < C.size := (Array.getElem?_eq_some_iff.1 hq.c11).1
  have HQ : Hid (QAt w rb C T wv0 its0) := hq
  have HWL : Hid (∀ b, wv0.ownBlock = some b → b < w.heap.size) := fun b hb => (hq.row.lt b hb).2
  have HC10 : Hid (C[10]? = some (.int .i64 (now : Int))) := h10
  clear h10
  go_enter Tryz.func101, Tryz.ntmps101
  go_upto_region 2 with fail
  obtain ⟨wa, hwa⟩ : ∃ wa, (w.alloc (.cells #[.slice none 0 0, .slice none 0 0, .slice none 0 0, .slice none 0 0, .slice none 0 0] 196)).alloc (.cells #[.slice none 0 0, .slice none 0 0, .slice none 0 0, .slice none 0 0, .slice none 0 0] 196) = wa := ⟨_, rfl⟩
  have hba : Below w.heap.size w wa := by rw [← hwa]; exact ((Below.refl _ w).alloc (Nat.le_refl _) _).alloc (by simp) _
  have hsa : wa.heap.size = w.heap.size + 2 := by rw [← hwa]; simp
  have HA0 : Hid (wa.heap[w.heap.size]? = some (.cells #[.slice none 0 0, .slice none 0 0, .slice none 0 0, .slice none 0 0, .slice none 0 0] 196 (0, 0))) := by
    show _ = _
    rw [← hwa, Below.heap_alloc _ _ _ (by simp)]; exact heap_alloc_new w _
  have hA1 : wa.heap[w.heap.size + 1]? = some (.cells #[.slice none 0 0, .slice none 0 0, .slice none 0 0, .slice none 0 0, .slice none 0 0] 196 (0, 0)) := by
    rw [← hwa]
    have := heap_alloc_new (w.alloc (.cells #[.slice none 0 0, .slice none 0 0, .slice none 0 0, .slice none 0 0, .slice none 0 0] 196)) (.cells #[.slice none 0 0, .slice none 0 0, .slice none 0 0, .slice none 0 0, .slice none 0 0] 196)
    simpa only [World.size_alloc] using this
  rw [hwa]
  clear hwa
  have HST : Hid (TakeI w rb C T wv0 now its0 (w.heap.size + 1) wa its0 [] wv0 (fun _ => .slice none 0 0)) := by
    have hqa := hq.below hba
    have e : C.setIfInBounds 11 wv0 = C := by
      apply Array.ext_getElem?
      intro i
      by_cases hi : i = 11
      · subst hi; rw [Array.getElem?_setIfInBounds_self_of_lt hCs, hq.c11]
      · rw [Array.getElem?_setIfInBounds_ne (fun e => hi e.symm)]
    exact ⟨by rw [e]; exact hqa, hh, ⟨its0, Popped.start now its0⟩, fun b hb => .inl hb, (DueD.start hA1).congr fun t _ => rfl, fun _ _ _ hb => by simp [Value.ownBlock] at hb, Upd.of_below hba, HA0.out⟩
  clear hq hh hA1 hba
  generalize hdb : w.heap.size + 1 = db at *
  go_loopw [12] (fun _ wr => ∃ its ps wv vs, Hid (TakeI w rb C T wv0 now its0 db wr its ps wv vs)) (fun _ wr => 1000 - popAt wr db)
  case atStart => exact ⟨its0, [], wv0, _, HST⟩
  case round =>
    obtain ⟨its, ps, wv, vs, HI⟩ := hrel
    have c10 : wr.cell? ⟨rb, 10, none⟩ = some (.int .i64 (now : Int)) := by rw [cell_of_heap HI.out.q.rbk, Array.getElem?_setIfInBounds_ne (by omega)]; exact HC10.out
    have c11 : wr.cell? ⟨rb, 11, none⟩ = some wv := by rw [cell_of_heap HI.out.q.rbk]; exact HI.out.q.c11
    obtain ⟨pw, cw, hwv⟩ := own_form HI.out.q.row
    subst hwv
    by_cases hg : 0 < its.length ∧ kF its 0 ≤ now
    · obtain ⟨g, cap, hgv, -, hgl⟩ := HI.out.q.row.form hg.1
      simp only [Value.slice.injEq, true_and] at hgv
      obtain ⟨rfl, rfl⟩ := hgv
      have cg : wr.cell? ⟨g, 0, none⟩ = some (.int .i64 (its[0].due : Int)) := by
        have h0 := hg.1
        obtain ⟨g', cap', hv', -, hc'⟩ := it_cells HI.out.q.row h0
        cases hv'
        have := hc' 0 (.int .i64 (its[0].due : Int)) (by omega) rfl
        simpa using this
      have hdue : decide ((its[0].due : Int) ≤ (now : Int)) = true := by have := hg.2; rw [kF_get hg.1] at this; simp; omega
      have hpos : (0 : Int) < (its.length : Int) := by have := hg.1; omega
      generalize hd0 : (its[0].due : Int) = d0 at *
      go_upto_region 2 with fail
      go_quiet (fail)
      have HI1 : Hid (TakeI w rb C T wv0 now its0 db (wr.drewN nq) its ps (.slice (some ⟨g, 0, none⟩) its.length cw) vs) := HI.out.drewN nq
      have HM0 : Hid (popAt wr db = ps.length ∧ ps.length ≤ its0.length) := HI.out.popAt
      have hx0 : its[0].due ≤ now := by have := hg.2; rwa [kF_get hg.1] at this
      have h0m : its[0] ∈ its := List.getElem_mem _
      clear c10 c11 cg hd0 HI
      generalize wr.drewN nq = w1 at *
      have hlen : its.length = its0.length := by obtain ⟨rest, hp⟩ := HI1.out.pop; exact hp.len
      have HPOP : Hid (Calls Tryz.prog 138 #[.iface 175 (.pointer (some ⟨rb, 11, none⟩))] w1 fun e w' => ∃ x its1 g1 cap1, e = .returned (.iface 171 x.val) ∧ Hid (QTo w1 rb (C.setIfInBounds 11 (.slice (some ⟨g, 0, none⟩) its.length cw)) T (.slice (some ⟨g, 0, none⟩) its.length cw) its1 g1 cap1 w' ∧ (x :: its1).Perm its ∧ HeapFrom 0 its1.length (kF its1) ∧ x.due ≤ now)) := by
        refine (popG rb its hg.1 (by omega) _ _ T w1 HI1.out.q HI1.out.heap).mono ?_
        rintro e w' ⟨x, its1, g1, cap1, h1, h2, h3, h4, h5⟩
        exact ⟨x, its1, g1, cap1, h1, h2, h3, h4, Nat.le_trans (h5 _ h0m) hx0⟩
      unfold It.val at HPOP
      clear hg hdue hpos h0m hx0
      go_upto_region 4 with (go_at_call 138; refine HPOP.out.mono ?_; rintro e w2 ⟨x, its1, g1, cap1, rfl, HQ2⟩)
      obtain ⟨q2, qp, qh, qd⟩ := HQ2.out
      have hs2 : w1.heap.size ≤ w2.heap.size := q2.upd.size
      have hdl : db < w1.heap.size := (Array.getElem?_eq_some_iff.1 HI1.out.due.blk).1
      have hxt := x.ht
      obtain ⟨w3, hw3⟩ : ∃ w3, w2.alloc (.cells #[.int .i64 (x.due : Int), .int .i64 (x.to : Int), .int .i64 (x.en.org : Int), .int .i64 (x.en.seq : Int), .int .i64 (x.en.ah.a : Int), .int .i64 (x.en.ah.b : Int), .int .i64 (x.en.ah.c : Int), .int .i64 (x.en.ah.d : Int), .int .i64 (x.en.ah.e : Int), .int .i64 (x.en.c.k.num : Int), .string x.en.c.word, .int .i64 (x.en.c.count : Int)] 171) = w3 := ⟨_, rfl⟩
      have hb3 : w3.heap[w2.heap.size]? = some (.cells #[.int .i64 (x.due : Int), .int .i64 (x.to : Int), .int .i64 (x.en.org : Int), .int .i64 (x.en.seq : Int), .int .i64 (x.en.ah.a : Int), .int .i64 (x.en.ah.b : Int), .int .i64 (x.en.ah.c : Int), .int .i64 (x.en.ah.d : Int), .int .i64 (x.en.ah.e : Int), .int .i64 (x.en.c.k.num : Int), .string x.en.c.word, .int .i64 (x.en.c.count : Int)] 171 (0, 0)) := by rw [← hw3]; exact heap_alloc_new w2 _
      have hs3 : w3.heap.size = w2.heap.size + 1 := by rw [← hw3]; simp
      have hbl3 : Below w2.heap.size w2 w3 := by rw [← hw3]; exact (Below.refl _ w2).alloc (Nat.le_refl _) _
      rw [hw3]
      clear hw3
      have hD3 : DueD w3 db (forL ps) vs := by
        have u := q2.upd
        refine (HI1.out.due.keep u (fun hm => ?_) fun t ht b hb hm => ?_).keep (Upd.of_below (S := []) hbl3) (by simp) (by simp)
        · simp only [List.mem_cons, List.not_mem_nil, or_false, Option.some.injEq] at hm
          rcases hm with hm | hm
          · omega
          · rcases HI1.out.own db hm.symm with h | h
            · have := (HQ.out.row.lt db h).2; omega
            · omega
        · simp only [List.mem_cons, List.not_mem_nil, or_false, Option.some.injEq] at hm
          rcases hm with hm | hm
          · have := own_ge (HI1.out.due.row t ht) hb; omega
          · exact HI1.out.far t ht b hb hm.symm
      have hq3 : QAt w3 rb (C.setIfInBounds 11 (.slice (some ⟨g1, 0, none⟩) its1.length cap1)) T (.slice (some ⟨g1, 0, none⟩) its1.length cap1) its1 := by
        have := (q2.at (by rw [Array.size_setIfInBounds]; exact hCs)).below hbl3
        rwa [Array.setIfInBounds_setIfInBounds] at this
      have cd : w3.cell? ⟨db, x.to, none⟩ = some (vs x.to) := hD3.cell hxt
      have fd : w3.frozen? ⟨db, x.to, none⟩ = false := frozen_of_heap hD3.blk _
      have hvb : ∀ b, (vs x.to).ownBlock = some b → db < b ∧ b < w2.heap.size := fun b hb => ⟨own_ge (hD3.row _ hxt) hb, by have := ((HI1.out.due.row _ hxt).lt b hb).2; omega⟩
      have hib : db < w2.heap.size := by omega
      generalize hibd : w2.heap.size = ib at *
      have hS : (fun w' : World => w'.heap[ib]? = some (.cells #[.int .i64 (x.due : Int), .int .i64 (x.to : Int), .int .i64 (x.en.org : Int), .int .i64 (x.en.seq : Int), .int .i64 (x.en.ah.a : Int), .int .i64 (x.en.ah.b : Int), .int .i64 (x.en.ah.c : Int), .int .i64 (x.en.ah.d : Int), .int .i64 (x.en.ah.e : Int), .int .i64 (x.en.c.k.num : Int), .string x.en.c.word, .int .i64 (x.en.c.count : Int)] 171 (0, 0))) w3.drew := hb3
      have hx5 : (x.to : Int) < 5 := by omega
      have hx50 : (0 : Int) ≤ (x.to : Int) := by omega
      have hmx : Tryz.prog.follows .mixedOrders = true := by kernel_rfl
      have hle9 : (forL ps x.to).length ≤ 1000 := by
        have h1 := HM0.out.2
        have h2 : (forL ps x.to).length ≤ ps.length := by unfold forL; rw [List.length_map]; exact List.length_filter_le _ _
        omega
      refine wp_region_held (S := (fun w' : World => w'.heap[ib]? = some (.cells #[.int .i64 (x.due : Int), .int .i64 (x.to : Int), .int .i64 (x.en.org : Int), .int .i64 (x.en.seq : Int), .int .i64 (x.en.ah.a : Int), .int .i64 (x.en.ah.b : Int), .int .i64 (x.en.ah.c : Int), .int .i64 (x.en.ah.d : Int), .int .i64 (x.en.ah.e : Int), .int .i64 (x.en.c.k.num : Int), .string x.en.c.word, .int .i64 (x.en.c.count : Int)] 171 (0, 0)))) hmx ?_
      refine wpAnyH_take (i := 0) (v := (.pointer (some ⟨ib, 1, none⟩))) rfl (by kernel_rfl) (by kernel_rfl) (by kernel_rfl) (fun _ _ _ h => h) (Or.inl ⟨by rfl, ?_⟩) hS ?_
      · intro W hSw
        go_simp
      dsimp only [List.getElem_toArray, List.getElem_cons_zero, List.getElem_cons_succ]
      simp only [Act.put, List.setIfInBounds_toArray, List.set_cons_zero, List.set_cons_succ]
      refine wpAnyH_take (i := 1) (v := (.int .i64 (x.to : Int))) rfl (by kernel_rfl) (by kernel_rfl) (by kernel_rfl) (fun _ _ _ h => h) (Or.inl ⟨by rfl, ?_⟩) hS ?_
      · intro W hSw
        have s1 : W.cell? ⟨ib, 1, none⟩ = some (.int .i64 (x.to : Int)) := by rw [cell_of_heap hSw]; rfl
        go_simp
      dsimp only [List.getElem_toArray, List.getElem_cons_zero, List.getElem_cons_succ]
      simp only [Act.put, List.setIfInBounds_toArray, List.set_cons_zero, List.set_cons_succ]
      refine wpAnyH_take (i := 2) (v := (.pointer (some ⟨ib, 1, none⟩))) rfl (by kernel_rfl) (by kernel_rfl) (by kernel_rfl) (fun _ _ _ h => h) (Or.inl ⟨by rfl, ?_⟩) hS ?_
      · intro W hSw
        go_simp
      dsimp only [List.getElem_toArray, List.getElem_cons_zero, List.getElem_cons_succ]
      simp only [Act.put, List.setIfInBounds_toArray, List.set_cons_zero, List.set_cons_succ]
      refine wpAnyH_take (i := 3) (v := (.int .i64 (x.to : Int))) rfl (by kernel_rfl) (by kernel_rfl) (by kernel_rfl) (fun _ _ _ h => h) (Or.inl ⟨by rfl, ?_⟩) hS ?_
      · intro W hSw
        have s1 : W.cell? ⟨ib, 1, none⟩ = some (.int .i64 (x.to : Int)) := by rw [cell_of_heap hSw]; rfl
        go_simp
      dsimp only [List.getElem_toArray, List.getElem_cons_zero, List.getElem_cons_succ]
      simp only [Act.put, List.setIfInBounds_toArray, List.set_cons_zero, List.set_cons_succ]
      refine wpAnyH_take (i := 4) (v := (.pointer (some ⟨db, x.to, none⟩))) rfl (by kernel_rfl) (by kernel_rfl) (by kernel_rfl) (fun _ _ _ h => h) (Or.inl ⟨by rfl, ?_⟩) hS ?_
      · intro W hSw
        go_simp
      dsimp only [List.getElem_toArray, List.getElem_cons_zero, List.getElem_cons_succ]
      simp only [Act.put, List.setIfInBounds_toArray, List.set_cons_zero, List.set_cons_succ]
      refine wpAnyH_take (i := 6) (v := (.pointer (some ⟨ib, 2, none⟩))) rfl (by kernel_rfl) (by kernel_rfl) (by kernel_rfl) (fun _ _ _ h => h) (Or.inl ⟨by rfl, ?_⟩) hS ?_
      · intro W hSw
        go_simp
      dsimp only [List.getElem_toArray, List.getElem_cons_zero, List.getElem_cons_succ]
      simp only [Act.put, List.setIfInBounds_toArray, List.set_cons_zero, List.set_cons_succ]
      refine wpAnyH_take (i := 7) (v := (.agg #[.int .i64 (x.en.org : Int), .int .i64 (x.en.seq : Int), .int .i64 (x.en.ah.a : Int), .int .i64 (x.en.ah.b : Int), .int .i64 (x.en.ah.c : Int), .int .i64 (x.en.ah.d : Int), .int .i64 (x.en.ah.e : Int), .int .i64 (x.en.c.k.num : Int), .string x.en.c.word, .int .i64 (x.en.c.count : Int)])) rfl (by kernel_rfl) (by kernel_rfl) (by kernel_rfl) (fun _ _ _ h => h) (Or.inl ⟨by rfl, ?_⟩) hS ?_
      · intro W hSw
        have s2 : W.cell? ⟨ib, 2, none⟩ = some (.int .i64 (x.en.org : Int)) := by rw [cell_of_heap hSw]; rfl
        have s3 : W.cell? ⟨ib, 3, none⟩ = some (.int .i64 (x.en.seq : Int)) := by rw [cell_of_heap hSw]; rfl
        have s4 : W.cell? ⟨ib, 4, none⟩ = some (.int .i64 (x.en.ah.a : Int)) := by rw [cell_of_heap hSw]; rfl
        have s5 : W.cell? ⟨ib, 5, none⟩ = some (.int .i64 (x.en.ah.b : Int)) := by rw [cell_of_heap hSw]; rfl
        have s6 : W.cell? ⟨ib, 6, none⟩ = some (.int .i64 (x.en.ah.c : Int)) := by rw [cell_of_heap hSw]; rfl
        have s7 : W.cell? ⟨ib, 7, none⟩ = some (.int .i64 (x.en.ah.d : Int)) := by rw [cell_of_heap hSw]; rfl
        have s8 : W.cell? ⟨ib, 8, none⟩ = some (.int .i64 (x.en.ah.e : Int)) := by rw [cell_of_heap hSw]; rfl
        have s9 : W.cell? ⟨ib, 9, none⟩ = some (.int .i64 (x.en.c.k.num : Int)) := by rw [cell_of_heap hSw]; rfl
        have s10 : W.cell? ⟨ib, 10, none⟩ = some (.string x.en.c.word) := by rw [cell_of_heap hSw]; rfl
        have s11 : W.cell? ⟨ib, 11, none⟩ = some (.int .i64 (x.en.c.count : Int)) := by rw [cell_of_heap hSw]; rfl
        go_simp
      dsimp only [List.getElem_toArray, List.getElem_cons_zero, List.getElem_cons_succ]
      simp only [Act.put, List.setIfInBounds_toArray, List.set_cons_zero, List.set_cons_succ]
      have hnb : ∀ o, (w3.drew.alloc o).heap[ib]? = w3.heap[ib]? := fun o => Below.heap_alloc w3.drew o ib (by show ib < w3.heap.size; omega)
      have hSa : ∀ o, (fun w' : World => w'.heap[ib]? = some (.cells #[.int .i64 (x.due : Int), .int .i64 (x.to : Int), .int .i64 (x.en.org : Int), .int .i64 (x.en.seq : Int), .int .i64 (x.en.ah.a : Int), .int .i64 (x.en.ah.b : Int), .int .i64 (x.en.ah.c : Int), .int .i64 (x.en.ah.d : Int), .int .i64 (x.en.ah.e : Int), .int .i64 (x.en.c.k.num : Int), .string x.en.c.word, .int .i64 (x.en.c.count : Int)] 171 (0, 0))) (w3.drew.alloc o) := fun o => (hnb o).trans hb3
      have ka : ∀ o, (w3.drew.alloc o).cell? ⟨db, x.to, none⟩ = some (vs x.to) := fun o => (World.cell?_of_block (a := ⟨db, x.to, none⟩) (Below.heap_alloc w3.drew o db (by show db < w3.heap.size; omega))).trans cd
      have cd' : w3.drew.cell? ⟨db, x.to, none⟩ = some (vs x.to) := cd
      have hnw : (w3.drew.alloc (.cells #[.int .i64 (x.en.org : Int), .int .i64 (x.en.seq : Int), .int .i64 (x.en.ah.a : Int), .int .i64 (x.en.ah.b : Int), .int .i64 (x.en.ah.c : Int), .int .i64 (x.en.ah.d : Int), .int .i64 (x.en.ah.e : Int), .int .i64 (x.en.c.k.num : Int), .string x.en.c.word, .int .i64 (x.en.c.count : Int)] 122)).heap[ib + 1]? = some (.cells #[.int .i64 (x.en.org : Int), .int .i64 (x.en.seq : Int), .int .i64 (x.en.ah.a : Int), .int .i64 (x.en.ah.b : Int), .int .i64 (x.en.ah.c : Int), .int .i64 (x.en.ah.d : Int), .int .i64 (x.en.ah.e : Int), .int .i64 (x.en.c.k.num : Int), .string x.en.c.word, .int .i64 (x.en.c.count : Int)] 122 (0, 0)) := by
        have := heap_alloc_new w3.drew (.cells #[.int .i64 (x.en.org : Int), .int .i64 (x.en.seq : Int), .int .i64 (x.en.ah.a : Int), .int .i64 (x.en.ah.b : Int), .int .i64 (x.en.ah.c : Int), .int .i64 (x.en.ah.d : Int), .int .i64 (x.en.ah.e : Int), .int .i64 (x.en.c.k.num : Int), .string x.en.c.word, .int .i64 (x.en.c.count : Int)] 122)
        rwa [show w3.drew.heap.size = ib + 1 from hs3] at this
      have HAP : Hid (∀ (g5 cap5 : Nat) (w5 : World), w5.ownsRow (db + 1) 122 10 (.slice (some ⟨g5, 0, none⟩) ((forL ps x.to).length + 1) cap5) ((forL ps x.to).length + 1) (enRow (forL ps x.to) ++ [.int .i64 (x.en.org : Int), .int .i64 (x.en.seq : Int), .int .i64 (x.en.ah.a : Int), .int .i64 (x.en.ah.b : Int), .int .i64 (x.en.ah.c : Int), .int .i64 (x.en.ah.d : Int), .int .i64 (x.en.ah.e : Int), .int .i64 (x.en.c.k.num : Int), .string x.en.c.word, .int .i64 (x.en.c.count : Int)]) → (w3.drew.alloc (.cells #[.int .i64 (x.en.org : Int), .int .i64 (x.en.seq : Int), .int .i64 (x.en.ah.a : Int), .int .i64 (x.en.ah.b : Int), .int .i64 (x.en.ah.c : Int), .int .i64 (x.en.ah.d : Int), .int .i64 (x.en.ah.e : Int), .int .i64 (x.en.c.k.num : Int), .string x.en.c.word, .int .i64 (x.en.c.count : Int)] 122)).grownBy w5 (vs x.to).ownBlock → ((vs x.to).ownBlock = some g5 ∨ g5 = w3.heap.size + 1) → (fun w' : World => w'.heap[ib]? = some (.cells #[.int .i64 (x.due : Int), .int .i64 (x.to : Int), .int .i64 (x.en.org : Int), .int .i64 (x.en.seq : Int), .int .i64 (x.en.ah.a : Int), .int .i64 (x.en.ah.b : Int), .int .i64 (x.en.ah.c : Int), .int .i64 (x.en.ah.d : Int), .int .i64 (x.en.ah.e : Int), .int .i64 (x.en.c.k.num : Int), .string x.en.c.word, .int .i64 (x.en.c.count : Int)] 171 (0, 0))) w5 ∧ w5.cell? ⟨db, x.to, none⟩ = some (vs x.to) ∧ w5.frozen? ⟨db, x.to, none⟩ = false ∧ (fun w' : World => w'.heap[ib]? = some (.cells #[.int .i64 (x.due : Int), .int .i64 (x.to : Int), .int .i64 (x.en.org : Int), .int .i64 (x.en.seq : Int), .int .i64 (x.en.ah.a : Int), .int .i64 (x.en.ah.b : Int), .int .i64 (x.en.ah.c : Int), .int .i64 (x.en.ah.d : Int), .int .i64 (x.en.ah.e : Int), .int .i64 (x.en.c.k.num : Int), .string x.en.c.word, .int .i64 (x.en.c.count : Int)] 171 (0, 0))) (w5.setCell ⟨db, x.to, none⟩ (.slice (some ⟨g5, 0, none⟩) ((forL ps x.to).length + 1) cap5)) ∧
          Hid (DueD (w5.setCell ⟨db, x.to, none⟩ (.slice (some ⟨g5, 0, none⟩) ((forL ps x.to).length + 1) cap5)) db (forL (ps ++ [x])) (fun u => if u = x.to then .slice (some ⟨g5, 0, none⟩) ((forL ps x.to).length + 1) cap5 else vs u) ∧ Upd [(vs x.to).ownBlock, some db] w3 (w5.setCell ⟨db, x.to, none⟩ (.slice (some ⟨g5, 0, none⟩) ((forL ps x.to).length + 1) cap5)) ∧ ((vs x.to).ownBlock = some g5 ∨ w3.heap.size < g5))) := fun g5 cap5 w5 hown5 hgrow hat5 => by
        have u5 : Upd [(vs x.to).ownBlock] w3 w5 := ((Upd.refl _ w3).drew.alloc _).grown hgrow fun k hk => .inl (by simp [hk])
        have kb : ∀ b, b < w3.heap.size → (vs x.to).ownBlock ≠ some b → w5.heap[b]? = w3.heap[b]? := fun b hb hne => u5.block b hb (by simpa using fun e => hne e.symm)
        have s5 : w5.heap[ib]? = _ := (kb ib (by omega) fun e => by have := (hvb ib e).2; omega).trans hb3
        have d5 : w5.heap[db]? = _ := (kb db (by omega) fun e => by have := (hvb db e).1; omega).trans hD3.blk
        refine ⟨s5, by rw [cell_of_heap d5]; exact five_get vs hxt, frozen_of_heap d5 _, ?_, ?_, ?_, ?_⟩
        · exact (Below.heap_setCell _ _ _ _ (by show ib ≠ db; omega)).trans s5
        · refine (hD3.push hxt hown5 (hat5.imp id fun h => by omega) u5).congr fun t _ => ?_
          rw [forL_snoc]
          by_cases e : t = x.to
          · subst e; simp
          · rw [if_neg e, if_neg (fun e' => e e'.symm), List.append_nil]
        · exact (u5.mono (T := [(vs x.to).ownBlock, some db]) (fun i hi => by simp only [List.mem_cons, List.not_mem_nil, or_false] at hi ⊢; exact .inl hi)).setCell (.inl (by simp)) _
        · exact hat5.imp id fun h => by omega
      refine wpAnyH_ready (rs := [5, 8]) (by kernel_rfl) (by simp) ?_
      refine AllReadyH.cons rfl (fun K hK => ?_) (AllReadyH.cons rfl (fun K hK => ?_) AllReadyH.nil)
      · -- the load first
        rw [if_pos (by rfl)]
        dsimp only [List.getElem_toArray, List.getElem_cons_zero, List.getElem_cons_succ]
        go_simp
        refine hK.out _ _ hS (fun _ => ?_)
        clear hK K
        try simp only [Act.put, List.setIfInBounds_toArray, List.set_cons_zero, List.set_cons_succ]
        refine wpAnyH_ready (rs := [8]) (by kernel_rfl) (by simp) ?_
        refine AllReadyH.cons rfl (fun K hK => ?_) AllReadyH.nil
        rw [if_pos (by rfl)]
        dsimp only [List.getElem_toArray, List.getElem_cons_zero, List.getElem_cons_succ]
        go_simp
        refine hK.out _ _ (hSa _) (fun _ => ?_)
        clear hK K
        try simp only [Act.put, List.setIfInBounds_toArray, List.set_cons_zero, List.set_cons_succ]
        refine wpAnyH_ready (rs := [9]) (by kernel_rfl) (by simp) ?_
        refine AllReadyH.cons rfl (fun K hK => ?_) AllReadyH.nil
        refine step_append_lies _ (by rfl) _ _ _ (by rfl) (db + 1) 122 i3 _ 10 88 Tryz.underlying101 hi3 hy0 hy1 hy2 rfl (by omega) (vs x.to) (forL ps x.to).length (enRow (forL ps x.to)) (by rfl) (Upd.owns (S := []) (Upd.alloc (Upd.drew (Upd.refl _ w3)) _) (hD3.row _ hxt) (by simp))
          ⟨ib + 1, 0, none⟩ 1 1 [.int .i64 (x.en.org : Int), .int .i64 (x.en.seq : Int), .int .i64 (x.en.ah.a : Int), .int .i64 (x.en.ah.b : Int), .int .i64 (x.en.ah.c : Int), .int .i64 (x.en.ah.d : Int), .int .i64 (x.en.ah.e : Int), .int .i64 (x.en.c.k.num : Int), .string x.en.c.word, .int .i64 (x.en.c.count : Int)] (by rfl) (by rfl) (World.news_of_block hnw) (by simp [Value.oneCell'])
          (by omega) (by unfold maxLen; omega) (by omega) (by show db + 1 ≤ (w3.drew.alloc _).heap.size; simp; omega) (w3.heap.size + 1) (by show (w3.drew.alloc _).heap.size = _; simp) ?_
        intro g5 cap5 w5 hown5 hgrow hat5 hlt5
        obtain ⟨hS5, c5, f5, hS6, HD6⟩ := HAP.out g5 cap5 w5 hown5 hgrow hat5
        refine hK.out _ _ hS5 (fun _ => ?_)
        clear hK K
        try simp only [Act.put, List.setIfInBounds_toArray, List.set_cons_zero, List.set_cons_succ]
        refine wpAnyH_take (i := 10) (v := (.pointer (some ⟨db, x.to, none⟩))) rfl (by kernel_rfl) (by kernel_rfl) (by kernel_rfl) (fun _ _ _ h => h) (Or.inl ⟨by rfl, ?_⟩) hS5 ?_
        · intro W hSw
          go_simp
        dsimp only [List.getElem_toArray, List.getElem_cons_zero, List.getElem_cons_succ]
        simp only [Act.put, List.setIfInBounds_toArray, List.set_cons_zero, List.set_cons_succ]
        refine wpAnyH_ready (rs := [11]) (by kernel_rfl) (by simp) ?_
        refine AllReadyH.cons rfl (fun K hK => ?_) AllReadyH.nil
        rw [if_pos (by rfl)]
        dsimp only [List.getElem_toArray, List.getElem_cons_zero, List.getElem_cons_succ]
        go_simp
        refine hK.out _ _ hS6 (fun _ => ?_)
        clear hK K
        try simp only [Act.put, List.setIfInBounds_toArray, List.set_cons_zero, List.set_cons_succ]
        refine wpAnyH_done (by kernel_rfl) ?_ _
        obtain ⟨hD6, u6, hg5⟩ := HD6.out
        generalize hw6 : w5.setCell ⟨db, x.to, none⟩ (.slice (some ⟨g5, 0, none⟩) ((forL ps x.to).length + 1) cap5) = w6 at *
        have u7 : Upd [some ib] w6 (w6.setCell ⟨ib, 0, none⟩ (.int .i64 ((now : Int) + 1))) := (Upd.refl _ w6).setCell (.inl (by simp)) _
        obtain ⟨q6, q7⟩ := HI1.out.q7 (x := x) hrl (by omega) HWL.out (by rw [← hibd] at *; exact q2) (by rw [hibd]; exact hs3) hq3 u6 (by rw [hibd]; exact u7)
        have c10 : w6.cell? ⟨rb, 10, none⟩ = some (.int .i64 (now : Int)) := by rw [cell_of_heap q6.rbk, Array.getElem?_setIfInBounds_ne (by omega)]; exact HC10.out
        have ci0 : w6.cell? ⟨ib, 0, none⟩ = some (.int .i64 (x.due : Int)) := by rw [cell_of_heap hS6]; rfl
        have fi0 : w6.frozen? ⟨ib, 0, none⟩ = false := frozen_of_heap hS6 0
        have hS7 : (fun w' : World => w'.heap[ib]? = some (.cells #[.int .i64 ((now : Int) + 1), .int .i64 (x.to : Int), .int .i64 (x.en.org : Int), .int .i64 (x.en.seq : Int), .int .i64 (x.en.ah.a : Int), .int .i64 (x.en.ah.b : Int), .int .i64 (x.en.ah.c : Int), .int .i64 (x.en.ah.d : Int), .int .i64 (x.en.ah.e : Int), .int .i64 (x.en.c.k.num : Int), .string x.en.c.word, .int .i64 (x.en.c.count : Int)] 171 (0, 0))) (w6.setCell ⟨ib, 0, none⟩ (.int .i64 ((now : Int) + 1))).drew := by
          show (w6.setCell ⟨ib, 0, none⟩ (.int .i64 ((now : Int) + 1))).heap[ib]? = _
          rw [heap_setCell_same hS6]; rfl
        have HPU : Hid (Calls Tryz.prog 89 #[.iface 175 (.pointer (some ⟨rb, 11, none⟩)), .iface 171 (.agg #[.int .i64 ((now : Int) + 1), .int .i64 (x.to : Int), .int .i64 (x.en.org : Int), .int .i64 (x.en.seq : Int), .int .i64 (x.en.ah.a : Int), .int .i64 (x.en.ah.b : Int), .int .i64 (x.en.ah.c : Int), .int .i64 (x.en.ah.d : Int), .int .i64 (x.en.ah.e : Int), .int .i64 (x.en.c.k.num : Int), .string x.en.c.word, .int .i64 (x.en.c.count : Int)])] (w6.setCell ⟨ib, 0, none⟩ (.int .i64 ((now : Int) + 1))).drew fun e w' => e = .returned (.tuple #[]) ∧ (fun w' : World => w'.heap[ib]? = some (.cells #[.int .i64 ((now : Int) + 1), .int .i64 (x.to : Int), .int .i64 (x.en.org : Int), .int .i64 (x.en.seq : Int), .int .i64 (x.en.ah.a : Int), .int .i64 (x.en.ah.b : Int), .int .i64 (x.en.ah.c : Int), .int .i64 (x.en.ah.d : Int), .int .i64 (x.en.ah.e : Int), .int .i64 (x.en.c.k.num : Int), .string x.en.c.word, .int .i64 (x.en.c.count : Int)] 171 (0, 0))) w' ∧ Hid (∃ its2 wv2, TakeI w rb C T wv0 now its0 db w' its2 (ps ++ [x]) wv2 (fun u => if u = x.to then .slice (some ⟨g5, 0, none⟩) ((forL ps x.to).length + 1) cap5 else vs u))) := by
          have hlt : laterI now x = ⟨now + 1, x.to, x.en, hnow, x.ht⟩ := dif_pos ⟨qd, hnow⟩
          have hl1 : its1.length < 1000 := by have := qp.length_eq; simp at this; omega
          have hpu := pushG rb its1 hl1 (laterI now x) _ _ T (w6.setCell ⟨ib, 0, none⟩ (.int .i64 ((now : Int) + 1))).drew ⟨q7.rbk, q7.c11, q7.row, q7.ne⟩ qh
          have hva : (laterI now x).val = .agg #[.int .i64 ((now : Int) + 1), .int .i64 (x.to : Int), .int .i64 (x.en.org : Int), .int .i64 (x.en.seq : Int), .int .i64 (x.en.ah.a : Int), .int .i64 (x.en.ah.b : Int), .int .i64 (x.en.ah.c : Int), .int .i64 (x.en.ah.d : Int), .int .i64 (x.en.ah.e : Int), .int .i64 (x.en.c.k.num : Int), .string x.en.c.word, .int .i64 (x.en.c.count : Int)] := by rw [hlt]; rfl
          rw [hva] at hpu
          refine hpu.mono ?_
          rintro e w8 ⟨he, its2, g8, cap8, q8, p8, h8⟩
          refine ⟨he, (q8.upd.block ib (by show ib < (w6.setCell _ _).heap.size; rw [size_setCell]; exact (Array.getElem?_eq_some_iff.1 hS6).1) fun hm => ?_).trans hS7, its2, _, HI1.out.step hrl (by omega) HWL.out hnow hCs q2 qp qd (by rw [hibd]; exact hbl3) (by rw [hibd]; exact hs3) hD6 u6 hg5 (by rw [hibd]; exact u7.drew) q8 p8 h8⟩
          simp only [List.mem_cons, List.not_mem_nil, or_false, Option.some.injEq, Value.ownBlock] at hm
          rcases hm with hm | hm
          · omega
          · have := (q2.row.lt g1 rfl).2; rw [hibd] at this; subst hm; exact absurd this (Nat.lt_irrefl _)
        clear hD6 u6 hg5 q6 q7 u7 HD6 hw6 hSa ka cd' hnw HAP hD3 hq3 cd fd hb3 hS5 c5 f5 hown5 hgrow hat5 hlt5 hnb hS
        go_upto_region 6 with fail
        refine wp_region_held (S := (fun w' : World => w'.heap[ib]? = some (.cells #[.int .i64 ((now : Int) + 1), .int .i64 (x.to : Int), .int .i64 (x.en.org : Int), .int .i64 (x.en.seq : Int), .int .i64 (x.en.ah.a : Int), .int .i64 (x.en.ah.b : Int), .int .i64 (x.en.ah.c : Int), .int .i64 (x.en.ah.d : Int), .int .i64 (x.en.ah.e : Int), .int .i64 (x.en.c.k.num : Int), .string x.en.c.word, .int .i64 (x.en.c.count : Int)] 171 (0, 0)))) hmx ?_
        refine wpAnyH_take (i := 0) (v := (.pointer (some ⟨rb, 10, none⟩))) rfl (by kernel_rfl) (by kernel_rfl) (by kernel_rfl) (fun _ _ _ h => h) (Or.inl ⟨by rfl, ?_⟩) hS7 ?_
        · intro W hSw
          go_simp
        dsimp only [List.getElem_toArray, List.getElem_cons_zero, List.getElem_cons_succ]
        simp only [Act.put, List.setIfInBounds_toArray, List.set_cons_zero, List.set_cons_succ]
        refine wpAnyH_take (i := 1) (v := (.pointer (some ⟨rb, 10, none⟩))) rfl (by kernel_rfl) (by kernel_rfl) (by kernel_rfl) (fun _ _ _ h => h) (Or.inl ⟨by rfl, ?_⟩) hS7 ?_
        · intro W hSw
          go_simp
        dsimp only [List.getElem_toArray, List.getElem_cons_zero, List.getElem_cons_succ]
        simp only [Act.put, List.setIfInBounds_toArray, List.set_cons_zero, List.set_cons_succ]
        refine wpAnyH_take (i := 2) (v := (.pointer (some ⟨rb, 11, none⟩))) rfl (by kernel_rfl) (by kernel_rfl) (by kernel_rfl) (fun _ _ _ h => h) (Or.inl ⟨by rfl, ?_⟩) hS7 ?_
        · intro W hSw
          go_simp
        dsimp only [List.getElem_toArray, List.getElem_cons_zero, List.getElem_cons_succ]
        simp only [Act.put, List.setIfInBounds_toArray, List.set_cons_zero, List.set_cons_succ]
        refine wpAnyH_take (i := 3) (v := (.iface 175 (.pointer (some ⟨rb, 11, none⟩)))) rfl (by kernel_rfl) (by kernel_rfl) (by kernel_rfl) (fun _ _ _ h => h) (Or.inl ⟨by rfl, ?_⟩) hS7 ?_
        · intro W hSw
          go_simp
        dsimp only [List.getElem_toArray, List.getElem_cons_zero, List.getElem_cons_succ]
        simp only [Act.put, List.setIfInBounds_toArray, List.set_cons_zero, List.set_cons_succ]
        refine wpAnyH_take (i := 4) (v := (.agg #[.int .i64 ((now : Int) + 1), .int .i64 (x.to : Int), .int .i64 (x.en.org : Int), .int .i64 (x.en.seq : Int), .int .i64 (x.en.ah.a : Int), .int .i64 (x.en.ah.b : Int), .int .i64 (x.en.ah.c : Int), .int .i64 (x.en.ah.d : Int), .int .i64 (x.en.ah.e : Int), .int .i64 (x.en.c.k.num : Int), .string x.en.c.word, .int .i64 (x.en.c.count : Int)])) rfl (by kernel_rfl) (by kernel_rfl) (by kernel_rfl) (fun _ _ _ h => h) (Or.inl ⟨by rfl, ?_⟩) hS7 ?_
        · intro W hSw
          have s0 : W.cell? ⟨ib, 0, none⟩ = some (.int .i64 ((now : Int) + 1)) := by rw [cell_of_heap hSw]; rfl
          have s1 : W.cell? ⟨ib, 1, none⟩ = some (.int .i64 (x.to : Int)) := by rw [cell_of_heap hSw]; rfl
          have s2 : W.cell? ⟨ib, 2, none⟩ = some (.int .i64 (x.en.org : Int)) := by rw [cell_of_heap hSw]; rfl
          have s3 : W.cell? ⟨ib, 3, none⟩ = some (.int .i64 (x.en.seq : Int)) := by rw [cell_of_heap hSw]; rfl
          have s4 : W.cell? ⟨ib, 4, none⟩ = some (.int .i64 (x.en.ah.a : Int)) := by rw [cell_of_heap hSw]; rfl
          have s5 : W.cell? ⟨ib, 5, none⟩ = some (.int .i64 (x.en.ah.b : Int)) := by rw [cell_of_heap hSw]; rfl
          have s6 : W.cell? ⟨ib, 6, none⟩ = some (.int .i64 (x.en.ah.c : Int)) := by rw [cell_of_heap hSw]; rfl
          have s7 : W.cell? ⟨ib, 7, none⟩ = some (.int .i64 (x.en.ah.d : Int)) := by rw [cell_of_heap hSw]; rfl
          have s8 : W.cell? ⟨ib, 8, none⟩ = some (.int .i64 (x.en.ah.e : Int)) := by rw [cell_of_heap hSw]; rfl
          have s9 : W.cell? ⟨ib, 9, none⟩ = some (.int .i64 (x.en.c.k.num : Int)) := by rw [cell_of_heap hSw]; rfl
          have s10 : W.cell? ⟨ib, 10, none⟩ = some (.string x.en.c.word) := by rw [cell_of_heap hSw]; rfl
          have s11 : W.cell? ⟨ib, 11, none⟩ = some (.int .i64 (x.en.c.count : Int)) := by rw [cell_of_heap hSw]; rfl
          go_simp
        dsimp only [List.getElem_toArray, List.getElem_cons_zero, List.getElem_cons_succ]
        simp only [Act.put, List.setIfInBounds_toArray, List.set_cons_zero, List.set_cons_succ]
        refine wpAnyH_take (i := 5) (v := (.iface 171 (.agg #[.int .i64 ((now : Int) + 1), .int .i64 (x.to : Int), .int .i64 (x.en.org : Int), .int .i64 (x.en.seq : Int), .int .i64 (x.en.ah.a : Int), .int .i64 (x.en.ah.b : Int), .int .i64 (x.en.ah.c : Int), .int .i64 (x.en.ah.d : Int), .int .i64 (x.en.ah.e : Int), .int .i64 (x.en.c.k.num : Int), .string x.en.c.word, .int .i64 (x.en.c.count : Int)]))) rfl (by kernel_rfl) (by kernel_rfl) (by kernel_rfl) (fun _ _ _ h => h) (Or.inl ⟨by rfl, ?_⟩) hS7 ?_
        · intro W hSw
          go_simp
        dsimp only [List.getElem_toArray, List.getElem_cons_zero, List.getElem_cons_succ]
        simp only [Act.put, List.setIfInBounds_toArray, List.set_cons_zero, List.set_cons_succ]
        refine wpAnyH_ready (rs := [6]) (by kernel_rfl) (by simp) ?_
        refine AllReadyH.cons rfl (fun K hK => ?_) AllReadyH.nil
        rw [if_pos (by rfl)]
        dsimp only [List.getElem_toArray, List.getElem_cons_zero, List.getElem_cons_succ]
        go_simp
        refine HPU.out.mono ?_
        rintro e w8 ⟨rfl, hS8, HT8⟩
        refine hK.out _ _ hS8 (fun _ => ?_)
        clear hK K
        try simp only [Act.put, List.setIfInBounds_toArray, List.set_cons_zero, List.set_cons_succ]
        refine wpAnyH_done (by kernel_rfl) ?_ _
        go_wp2
        go_roundw
        case rel => obtain ⟨its2, wv2, h2⟩ := HT8.out; exact ⟨its2, _, wv2, _, h2⟩
        case measure =>
          obtain ⟨its2, wv2, h2⟩ := HT8.out
          have m1 := h2.popAt
          have m0 := HM0.out
          rw [List.length_append] at m1
          simp only [List.length_cons, List.length_nil] at m1
          omega
      · -- the slice first
        rw [if_pos (by rfl)]
        dsimp only [List.getElem_toArray, List.getElem_cons_zero, List.getElem_cons_succ]
        go_simp
        refine hK.out _ _ (hSa _) (fun _ => ?_)
        clear hK K
        try simp only [Act.put, List.setIfInBounds_toArray, List.set_cons_zero, List.set_cons_succ]
        refine wpAnyH_ready (rs := [5]) (by kernel_rfl) (by simp) ?_
        refine AllReadyH.cons rfl (fun K hK => ?_) AllReadyH.nil
        rw [if_pos (by rfl)]
        dsimp only [List.getElem_toArray, List.getElem_cons_zero, List.getElem_cons_succ]
        go_simp
        refine hK.out _ _ (hSa _) (fun _ => ?_)
        clear hK K
        try simp only [Act.put, List.setIfInBounds_toArray, List.set_cons_zero, List.set_cons_succ]
        refine wpAnyH_ready (rs := [9]) (by kernel_rfl) (by simp) ?_
        refine AllReadyH.cons rfl (fun K hK => ?_) AllReadyH.nil
        refine step_append_lies _ (by rfl) _ _ _ (by rfl) (db + 1) 122 i3 _ 10 88 Tryz.underlying101 hi3 hy0 hy1 hy2 rfl (by omega) (vs x.to) (forL ps x.to).length (enRow (forL ps x.to)) (by rfl) (Upd.owns (S := []) (Upd.alloc (Upd.drew (Upd.refl _ w3)) _) (hD3.row _ hxt) (by simp))
          ⟨ib + 1, 0, none⟩ 1 1 [.int .i64 (x.en.org : Int), .int .i64 (x.en.seq : Int), .int .i64 (x.en.ah.a : Int), .int .i64 (x.en.ah.b : Int), .int .i64 (x.en.ah.c : Int), .int .i64 (x.en.ah.d : Int), .int .i64 (x.en.ah.e : Int), .int .i64 (x.en.c.k.num : Int), .string x.en.c.word, .int .i64 (x.en.c.count : Int)] (by rfl) (by rfl) (World.news_of_block hnw) (by simp [Value.oneCell'])
          (by omega) (by unfold maxLen; omega) (by omega) (by show db + 1 ≤ (w3.drew.alloc _).heap.size; simp; omega) (w3.heap.size + 1) (by show (w3.drew.alloc _).heap.size = _; simp) ?_
        intro g5 cap5 w5 hown5 hgrow hat5 hlt5
        obtain ⟨hS5, c5, f5, hS6, HD6⟩ := HAP.out g5 cap5 w5 hown5 hgrow hat5
        refine hK.out _ _ hS5 (fun _ => ?_)
        clear hK K
        try simp only [Act.put, List.setIfInBounds_toArray, List.set_cons_zero, List.set_cons_succ]
        refine wpAnyH_take (i := 10) (v := (.pointer (some ⟨db, x.to, none⟩))) rfl (by kernel_rfl) (by kernel_rfl) (by kernel_rfl) (fun _ _ _ h => h) (Or.inl ⟨by rfl, ?_⟩) hS5 ?_
        · intro W hSw
          go_simp
        dsimp only [List.getElem_toArray, List.getElem_cons_zero, List.getElem_cons_succ]
        simp only [Act.put, List.setIfInBounds_toArray, List.set_cons_zero, List.set_cons_succ]
        refine wpAnyH_ready (rs := [11]) (by kernel_rfl) (by simp) ?_
        refine AllReadyH.cons rfl (fun K hK => ?_) AllReadyH.nil
        rw [if_pos (by rfl)]
        dsimp only [List.getElem_toArray, List.getElem_cons_zero, List.getElem_cons_succ]
        go_simp
        refine hK.out _ _ hS6 (fun _ => ?_)
        clear hK K
        try simp only [Act.put, List.setIfInBounds_toArray, List.set_cons_zero, List.set_cons_succ]
        refine wpAnyH_done (by kernel_rfl) ?_ _
        obtain ⟨hD6, u6, hg5⟩ := HD6.out
        generalize hw6 : w5.setCell ⟨db, x.to, none⟩ (.slice (some ⟨g5, 0, none⟩) ((forL ps x.to).length + 1) cap5) = w6 at *
        have u7 : Upd [some ib] w6 (w6.setCell ⟨ib, 0, none⟩ (.int .i64 ((now : Int) + 1))) := (Upd.refl _ w6).setCell (.inl (by simp)) _
        obtain ⟨q6, q7⟩ := HI1.out.q7 (x := x) hrl (by omega) HWL.out (by rw [← hibd] at *; exact q2) (by rw [hibd]; exact hs3) hq3 u6 (by rw [hibd]; exact u7)
        have c10 : w6.cell? ⟨rb, 10, none⟩ = some (.int .i64 (now : Int)) := by rw [cell_of_heap q6.rbk, Array.getElem?_setIfInBounds_ne (by omega)]; exact HC10.out
        have ci0 : w6.cell? ⟨ib, 0, none⟩ = some (.int .i64 (x.due : Int)) := by rw [cell_of_heap hS6]; rfl
        have fi0 : w6.frozen? ⟨ib, 0, none⟩ = false := frozen_of_heap hS6 0
        have hS7 : (fun w' : World => w'.heap[ib]? = some (.cells #[.int .i64 ((now : Int) + 1), .int .i64 (x.to : Int), .int .i64 (x.en.org : Int), .int .i64 (x.en.seq : Int), .int .i64 (x.en.ah.a : Int), .int .i64 (x.en.ah.b : Int), .int .i64 (x.en.ah.c : Int), .int .i64 (x.en.ah.d : Int), .int .i64 (x.en.ah.e : Int), .int .i64 (x.en.c.k.num : Int), .string x.en.c.word, .int .i64 (x.en.c.count : Int)] 171 (0, 0))) (w6.setCell ⟨ib, 0, none⟩ (.int .i64 ((now : Int) + 1))).drew := by
          show (w6.setCell ⟨ib, 0, none⟩ (.int .i64 ((now : Int) + 1))).heap[ib]? = _
          rw [heap_setCell_same hS6]; rfl
        have HPU : Hid (Calls Tryz.prog 89 #[.iface 175 (.pointer (some ⟨rb, 11, none⟩)), .iface 171 (.agg #[.int .i64 ((now : Int) + 1), .int .i64 (x.to : Int), .int .i64 (x.en.org : Int), .int .i64 (x.en.seq : Int), .int .i64 (x.en.ah.a : Int), .int .i64 (x.en.ah.b : Int), .int .i64 (x.en.ah.c : Int), .int .i64 (x.en.ah.d : Int), .int .i64 (x.en.ah.e : Int), .int .i64 (x.en.c.k.num : Int), .string x.en.c.word, .int .i64 (x.en.c.count : Int)])] (w6.setCell ⟨ib, 0, none⟩ (.int .i64 ((now : Int) + 1))).drew fun e w' => e = .returned (.tuple #[]) ∧ (fun w' : World => w'.heap[ib]? = some (.cells #[.int .i64 ((now : Int) + 1), .int .i64 (x.to : Int), .int .i64 (x.en.org : Int), .int .i64 (x.en.seq : Int), .int .i64 (x.en.ah.a : Int), .int .i64 (x.en.ah.b : Int), .int .i64 (x.en.ah.c : Int), .int .i64 (x.en.ah.d : Int), .int .i64 (x.en.ah.e : Int), .int .i64 (x.en.c.k.num : Int), .string x.en.c.word, .int .i64 (x.en.c.count : Int)] 171 (0, 0))) w' ∧ Hid (∃ its2 wv2, TakeI w rb C T wv0 now its0 db w' its2 (ps ++ [x]) wv2 (fun u => if u = x.to then .slice (some ⟨g5, 0, none⟩) ((forL ps x.to).length + 1) cap5 else vs u))) := by
          have hlt : laterI now x = ⟨now + 1, x.to, x.en, hnow, x.ht⟩ := dif_pos ⟨qd, hnow⟩
          have hl1 : its1.length < 1000 := by have := qp.length_eq; simp at this; omega
          have hpu := pushG rb its1 hl1 (laterI now x) _ _ T (w6.setCell ⟨ib, 0, none⟩ (.int .i64 ((now : Int) + 1))).drew ⟨q7.rbk, q7.c11, q7.row, q7.ne⟩ qh
          have hva : (laterI now x).val = .agg #[.int .i64 ((now : Int) + 1), .int .i64 (x.to : Int), .int .i64 (x.en.org : Int), .int .i64 (x.en.seq : Int), .int .i64 (x.en.ah.a : Int), .int .i64 (x.en.ah.b : Int), .int .i64 (x.en.ah.c : Int), .int .i64 (x.en.ah.d : Int), .int .i64 (x.en.ah.e : Int), .int .i64 (x.en.c.k.num : Int), .string x.en.c.word, .int .i64 (x.en.c.count : Int)] := by rw [hlt]; rfl
          rw [hva] at hpu
          refine hpu.mono ?_
          rintro e w8 ⟨he, its2, g8, cap8, q8, p8, h8⟩
          refine ⟨he, (q8.upd.block ib (by show ib < (w6.setCell _ _).heap.size; rw [size_setCell]; exact (Array.getElem?_eq_some_iff.1 hS6).1) fun hm => ?_).trans hS7, its2, _, HI1.out.step hrl (by omega) HWL.out hnow hCs q2 qp qd (by rw [hibd]; exact hbl3) (by rw [hibd]; exact hs3) hD6 u6 hg5 (by rw [hibd]; exact u7.drew) q8 p8 h8⟩
          simp only [List.mem_cons, List.not_mem_nil, or_false, Option.some.injEq, Value.ownBlock] at hm
          rcases hm with hm | hm
          · omega
          · have := (q2.row.lt g1 rfl).2; rw [hibd] at this; subst hm; exact absurd this (Nat.lt_irrefl _)
        clear hD6 u6 hg5 q6 q7 u7 HD6 hw6 hSa ka cd' hnw HAP hD3 hq3 cd fd hb3 hS5 c5 f5 hown5 hgrow hat5 hlt5 hnb hS
        go_upto_region 6 with fail
        refine wp_region_held (S := (fun w' : World => w'.heap[ib]? = some (.cells #[.int .i64 ((now : Int) + 1), .int .i64 (x.to : Int), .int .i64 (x.en.org : Int), .int .i64 (x.en.seq : Int), .int .i64 (x.en.ah.a : Int), .int .i64 (x.en.ah.b : Int), .int .i64 (x.en.ah.c : Int), .int .i64 (x.en.ah.d : Int), .int .i64 (x.en.ah.e : Int), .int .i64 (x.en.c.k.num : Int), .string x.en.c.word, .int .i64 (x.en.c.count : Int)] 171 (0, 0)))) hmx ?_
        refine wpAnyH_take (i := 0) (v := (.pointer (some ⟨rb, 10, none⟩))) rfl (by kernel_rfl) (by kernel_rfl) (by kernel_rfl) (fun _ _ _ h => h) (Or.inl ⟨by rfl, ?_⟩) hS7 ?_
        · intro W hSw
          go_simp
        dsimp only [List.getElem_toArray, List.getElem_cons_zero, List.getElem_cons_succ]
        simp only [Act.put, List.setIfInBounds_toArray, List.set_cons_zero, List.set_cons_succ]
        refine wpAnyH_take (i := 1) (v := (.pointer (some ⟨rb, 10, none⟩))) rfl (by kernel_rfl) (by kernel_rfl) (by kernel_rfl) (fun _ _ _ h => h) (Or.inl ⟨by rfl, ?_⟩) hS7 ?_
        · intro W hSw
          go_simp
        dsimp only [List.getElem_toArray, List.getElem_cons_zero, List.getElem_cons_succ]
        simp only [Act.put, List.setIfInBounds_toArray, List.set_cons_zero, List.set_cons_succ]
        refine wpAnyH_take (i := 2) (v := (.pointer (some ⟨rb, 11, none⟩))) rfl (by kernel_rfl) (by kernel_rfl) (by kernel_rfl) (fun _ _ _ h => h) (Or.inl ⟨by rfl, ?_⟩) hS7 ?_
        · intro W hSw
          go_simp
        dsimp only [List.getElem_toArray, List.getElem_cons_zero, List.getElem_cons_succ]
        simp only [Act.put, List.setIfInBounds_toArray, List.set_cons_zero, List.set_cons_succ]
        refine wpAnyH_take (i := 3) (v := (.iface 175 (.pointer (some ⟨rb, 11, none⟩)))) rfl (by kernel_rfl) (by kernel_rfl) (by kernel_rfl) (fun _ _ _ h => h) (Or.inl ⟨by rfl, ?_⟩) hS7 ?_
        · intro W hSw
          go_simp
        dsimp only [List.getElem_toArray, List.getElem_cons_zero, List.getElem_cons_succ]
        simp only [Act.put, List.setIfInBounds_toArray, List.set_cons_zero, List.set_cons_succ]
        refine wpAnyH_take (i := 4) (v := (.agg #[.int .i64 ((now : Int) + 1), .int .i64 (x.to : Int), .int .i64 (x.en.org : Int), .int .i64 (x.en.seq : Int), .int .i64 (x.en.ah.a : Int), .int .i64 (x.en.ah.b : Int), .int .i64 (x.en.ah.c : Int), .int .i64 (x.en.ah.d : Int), .int .i64 (x.en.ah.e : Int), .int .i64 (x.en.c.k.num : Int), .string x.en.c.word, .int .i64 (x.en.c.count : Int)])) rfl (by kernel_rfl) (by kernel_rfl) (by kernel_rfl) (fun _ _ _ h => h) (Or.inl ⟨by rfl, ?_⟩) hS7 ?_
        · intro W hSw
          have s0 : W.cell? ⟨ib, 0, none⟩ = some (.int .i64 ((now : Int) + 1)) := by rw [cell_of_heap hSw]; rfl
          have s1 : W.cell? ⟨ib, 1, none⟩ = some (.int .i64 (x.to : Int)) := by rw [cell_of_heap hSw]; rfl
          have s2 : W.cell? ⟨ib, 2, none⟩ = some (.int .i64 (x.en.org : Int)) := by rw [cell_of_heap hSw]; rfl
          have s3 : W.cell? ⟨ib, 3, none⟩ = some (.int .i64 (x.en.seq : Int)) := by rw [cell_of_heap hSw]; rfl
          have s4 : W.cell? ⟨ib, 4, none⟩ = some (.int .i64 (x.en.ah.a : Int)) := by rw [cell_of_heap hSw]; rfl
          have s5 : W.cell? ⟨ib, 5, none⟩ = some (.int .i64 (x.en.ah.b : Int)) := by rw [cell_of_heap hSw]; rfl
          have s6 : W.cell? ⟨ib, 6, none⟩ = some (.int .i64 (x.en.ah.c : Int)) := by rw [cell_of_heap hSw]; rfl
          have s7 : W.cell? ⟨ib, 7, none⟩ = some (.int .i64 (x.en.ah.d : Int)) := by rw [cell_of_heap hSw]; rfl
          have s8 : W.cell? ⟨ib, 8, none⟩ = some (.int .i64 (x.en.ah.e : Int)) := by rw [cell_of_heap hSw]; rfl
          have s9 : W.cell? ⟨ib, 9, none⟩ = some (.int .i64 (x.en.c.k.num : Int)) := by rw [cell_of_heap hSw]; rfl
          have s10 : W.cell? ⟨ib, 10, none⟩ = some (.string x.en.c.word) := by rw [cell_of_heap hSw]; rfl
          have s11 : W.cell? ⟨ib, 11, none⟩ = some (.int .i64 (x.en.c.count : Int)) := by rw [cell_of_heap hSw]; rfl
          go_simp
        dsimp only [List.getElem_toArray, List.getElem_cons_zero, List.getElem_cons_succ]
        simp only [Act.put, List.setIfInBounds_toArray, List.set_cons_zero, List.set_cons_succ]
        refine wpAnyH_take (i := 5) (v := (.iface 171 (.agg #[.int .i64 ((now : Int) + 1), .int .i64 (x.to : Int), .int .i64 (x.en.org : Int), .int .i64 (x.en.seq : Int), .int .i64 (x.en.ah.a : Int), .int .i64 (x.en.ah.b : Int), .int .i64 (x.en.ah.c : Int), .int .i64 (x.en.ah.d : Int), .int .i64 (x.en.ah.e : Int), .int .i64 (x.en.c.k.num : Int), .string x.en.c.word, .int .i64 (x.en.c.count : Int)]))) rfl (by kernel_rfl) (by kernel_rfl) (by kernel_rfl) (fun _ _ _ h => h) (Or.inl ⟨by rfl, ?_⟩) hS7 ?_
        · intro W hSw
          go_simp
        dsimp only [List.getElem_toArray, List.getElem_cons_zero, List.getElem_cons_succ]
        simp only [Act.put, List.setIfInBounds_toArray, List.set_cons_zero, List.set_cons_succ]
        refine wpAnyH_ready (rs := [6]) (by kernel_rfl) (by simp) ?_
        refine AllReadyH.cons rfl (fun K hK => ?_) AllReadyH.nil
        rw [if_pos (by rfl)]
        dsimp only [List.getElem_toArray, List.getElem_cons_zero, List.getElem_cons_succ]
        go_simp
        refine HPU.out.mono ?_
        rintro e w8 ⟨rfl, hS8, HT8⟩
        refine hK.out _ _ hS8 (fun _ => ?_)
        clear hK K
        try simp only [Act.put, List.setIfInBounds_toArray, List.set_cons_zero, List.set_cons_succ]
        refine wpAnyH_done (by kernel_rfl) ?_ _
        go_wp2
        go_roundw
        case rel => obtain ⟨its2, wv2, h2⟩ := HT8.out; exact ⟨its2, _, wv2, _, h2⟩
        case measure =>
          obtain ⟨its2, wv2, h2⟩ := HT8.out
          have m1 := h2.popAt
          have m0 := HM0.out
          rw [List.length_append] at m1
          simp only [List.length_cons, List.length_nil] at m1
          omega
    · have HND : Hid (its = [] ∨ now < kF its 0) := by
        show _ ∨ _
        rcases Nat.eq_zero_or_pos its.length with h | h
        · exact .inl (List.length_eq_zero_iff.1 h)
        · exact .inr (Nat.lt_of_not_le fun h' => hg ⟨h, h'⟩)
      rcases Nat.eq_zero_or_pos its.length with hz | hz
      · have c11' : wr.cell? ⟨rb, 11, none⟩ = some (.slice pw 0 cw) := by rw [c11, hz]
        clear c11
        have c11 := c11'
        clear hg c11'
        go_upto_region 2 with fail
        go_quiet (fail)
        have HF : Hid (TakeI w rb C T wv0 now its0 db (wr.drewN nq) its ps (.slice pw its.length cw) vs) := HI.out.drewN nq
        have HD : Hid (∀ p ∈ its, now < p.due) := none_due HI.out.heap HND.out
        clear c10 c11 HI HND
        generalize wr.drewN nq = w1 at *
        generalize Value.slice pw its.length cw = wv at *
        have i0 : ∀ W, (Instr.index 196 (.agg #[vs 0, vs 1, vs 2, vs 3, vs 4]) (.int .i64 0)).run Tryz.prog W = .ok (vs 0) W := fun _ => by kernel_rfl
        have i1 : ∀ W, (Instr.index 196 (.agg #[vs 0, vs 1, vs 2, vs 3, vs 4]) (.int .i64 1)).run Tryz.prog W = .ok (vs 1) W := fun _ => by kernel_rfl
        have i2 : ∀ W, (Instr.index 196 (.agg #[vs 0, vs 1, vs 2, vs 3, vs 4]) (.int .i64 2)).run Tryz.prog W = .ok (vs 2) W := fun _ => by kernel_rfl
        have i3 : ∀ W, (Instr.index 196 (.agg #[vs 0, vs 1, vs 2, vs 3, vs 4]) (.int .i64 3)).run Tryz.prog W = .ok (vs 3) W := fun _ => by kernel_rfl
        have i4 : ∀ W, (Instr.index 196 (.agg #[vs 0, vs 1, vs 2, vs 3, vs 4]) (.int .i64 4)).run Tryz.prog W = .ok (vs 4) W := fun _ => by kernel_rfl
        have e0 := HF.out.due.cell (t := 0) (by omega)
        have e1 := HF.out.due.cell (t := 1) (by omega)
        have e2 := HF.out.due.cell (t := 2) (by omega)
        have e3 := HF.out.due.cell (t := 3) (by omega)
        have e4 := HF.out.due.cell (t := 4) (by omega)
        have HST2 : Hid (DueD w1 db (forL ps) vs ∧ (∀ t, t < 5 → (forL ps t).Perm (forL ps t)) ∧ QAt w1 rb (C.setIfInBounds 11 wv) T wv its ∧ Upd [some rb, wv0.ownBlock] w w1 ∧ w1.heap[w.heap.size]? = some (.cells #[.slice none 0 0, .slice none 0 0, .slice none 0 0, .slice none 0 0, .slice none 0 0] 196 (0, 0))) := ⟨HF.out.due, fun _ _ => List.Perm.refl _, HF.out.q, HF.out.upd, HF.out.res⟩
        go_wp2
        go_loopw [58] (fun v wr => ∃ (i : Nat) (D : Nat → List En), i ≤ 5 ∧ v = .int .i64 (i : Int) ∧ Hid (DueD wr db D vs ∧ (∀ t, t < 5 → (D t).Perm (forL ps t)) ∧ QAt wr rb (C.setIfInBounds 11 wv) T wv its ∧ Upd [some rb, wv0.ownBlock] w wr ∧ wr.heap[w.heap.size]? = some (.cells #[.slice none 0 0, .slice none 0 0, .slice none 0 0, .slice none 0 0, .slice none 0 0] 196 (0, 0)))) (fun v _ => 5 - (intOf v).toNat)
        case atStart => exact ⟨0, forL ps, by omega, rfl, HST2⟩
        case round =>
          obtain ⟨i, D, hi5, rfl, HJ⟩ := hrel
          clear e0 e1 e2 e3 e4 HST2
          by_cases hlt : i < 5
          · have HSRT : Hid (Calls Tryz.prog 139 #[vs i, .func (.func 140) #[] #[]] wr fun e w' => e = .returned (.tuple #[]) ∧ Hid (∃ D' : Nat → List En, DueD w' db D' vs ∧ (∀ t, t < 5 → (D' t).Perm (forL ps t)) ∧ QAt w' rb (C.setIfInBounds 11 wv) T wv its ∧ Upd [some rb, wv0.ownBlock] w w' ∧ w'.heap[w.heap.size]? = some (.cells #[.slice none 0 0, .slice none 0 0, .slice none 0 0, .slice none 0 0, .slice none 0 0] 196 (0, 0)))) := sort_one hrl (by omega) HWL.out (fun t ht => by obtain ⟨rest, hp⟩ := HF.out.pop; exact Nat.le_trans (forL_le hp t) (h12 t)) HF.out.far HF.out.own hlt HJ.out
            rcases (show i = 0 ∨ i = 1 ∨ i = 2 ∨ i = 3 ∨ i = 4 by omega) with rfl | rfl | rfl | rfl | rfl
            all_goals go_wp2_with (go_at_call 139; refine HSRT.out.mono ?_; rintro e w' ⟨rfl, HR⟩)
            all_goals
              go_roundw
              case rel => obtain ⟨D', h'⟩ := HR.out; exact ⟨_, D', by decide, rfl, h'⟩
              case measure => simp [intOf]
          · obtain rfl : i = 5 := by omega
            have e0 := HJ.out.1.cell (t := 0) (by omega)
            have e1 := HJ.out.1.cell (t := 1) (by omega)
            have e2 := HJ.out.1.cell (t := 2) (by omega)
            have e3 := HJ.out.1.cell (t := 3) (by omega)
            have e4 := HJ.out.1.cell (t := 4) (by omega)
            have k0 := HJ.out.2.2.2.2
            have z0 : wr.cell? ⟨w.heap.size, 0, none⟩ = some (.slice none 0 0) := by rw [cell_of_heap k0]; rfl
            have z1 : wr.cell? ⟨w.heap.size, 1, none⟩ = some (.slice none 0 0) := by rw [cell_of_heap k0]; rfl
            have z2 : wr.cell? ⟨w.heap.size, 2, none⟩ = some (.slice none 0 0) := by rw [cell_of_heap k0]; rfl
            have z3 : wr.cell? ⟨w.heap.size, 3, none⟩ = some (.slice none 0 0) := by rw [cell_of_heap k0]; rfl
            have z4 : wr.cell? ⟨w.heap.size, 4, none⟩ = some (.slice none 0 0) := by rw [cell_of_heap k0]; rfl
            have zf := frozen_of_heap k0
            clear k0
            obtain ⟨p0, q0, hv0⟩ := own_form (HJ.out.1.row 0 (by omega))
            obtain ⟨p1, q1, hv1⟩ := own_form (HJ.out.1.row 1 (by omega))
            obtain ⟨p2, q2, hv2⟩ := own_form (HJ.out.1.row 2 (by omega))
            obtain ⟨p3, q3, hv3⟩ := own_form (HJ.out.1.row 3 (by omega))
            obtain ⟨p4, q4, hv4⟩ := own_form (HJ.out.1.row 4 (by omega))
            have HE := due_end hrl (by omega) HWL.out HF.out HD.out (fun t ht => by obtain ⟨rest, hp⟩ := HF.out.pop; exact Nat.le_trans (forL_le hp t) (h12 t)) HJ.out
            go_wp2
            exact bodyPost_ret (v := .agg #[vs 0, vs 1, vs 2, vs 3, vs 4]) (by simp [results, Tryz.results101, go_sem, z0, z1, z2, z3, z4, hv0, hv1, hv2, hv3, hv4]) rfl ⟨vs, D, its, wv, rfl, HE _ _ _ _ _⟩
      · obtain ⟨g, cap, hgv, -, hgl⟩ := HI.out.q.row.form hz
        simp only [Value.slice.injEq, true_and] at hgv
        obtain ⟨rfl, rfl⟩ := hgv
        have cg : wr.cell? ⟨g, 0, none⟩ = some (.int .i64 (its[0].due : Int)) := by
          obtain ⟨g', cap', hv', -, hc'⟩ := it_cells HI.out.q.row hz
          cases hv'
          have := hc' 0 (.int .i64 (its[0].due : Int)) (by omega) rfl
          simpa using this
        have hdue : decide ((its[0].due : Int) ≤ (now : Int)) = false := by
          have : ¬ kF its 0 ≤ now := fun h => hg ⟨hz, h⟩
          rw [kF_get hz] at this
          simp; omega
        have hpos : (0 : Int) < (its.length : Int) := by omega
        generalize hd0 : (its[0].due : Int) = d0 at *
        clear hg
        go_upto_region 2 with fail
        go_quiet (fail)
        clear cg
        generalize (some ⟨g, 0, none⟩ : Option Addr) = pw at *
        have HF : Hid (TakeI w rb C T wv0 now its0 db (wr.drewN nq) its ps (.slice pw its.length cw) vs) := HI.out.drewN nq
        have HD : Hid (∀ p ∈ its, now < p.due) := none_due HI.out.heap HND.out
        clear c10 c11 HI HND
        generalize wr.drewN nq = w1 at *
        generalize Value.slice pw its.length cw = wv at *
        have i0 : ∀ W, (Instr.index 196 (.agg #[vs 0, vs 1, vs 2, vs 3, vs 4]) (.int .i64 0)).run Tryz.prog W = .ok (vs 0) W := fun _ => by kernel_rfl
        have i1 : ∀ W, (Instr.index 196 (.agg #[vs 0, vs 1, vs 2, vs 3, vs 4]) (.int .i64 1)).run Tryz.prog W = .ok (vs 1) W := fun _ => by kernel_rfl
        have i2 : ∀ W, (Instr.index 196 (.agg #[vs 0, vs 1, vs 2, vs 3, vs 4]) (.int .i64 2)).run Tryz.prog W = .ok (vs 2) W := fun _ => by kernel_rfl
        have i3 : ∀ W, (Instr.index 196 (.agg #[vs 0, vs 1, vs 2, vs 3, vs 4]) (.int .i64 3)).run Tryz.prog W = .ok (vs 3) W := fun _ => by kernel_rfl
        have i4 : ∀ W, (Instr.index 196 (.agg #[vs 0, vs 1, vs 2, vs 3, vs 4]) (.int .i64 4)).run Tryz.prog W = .ok (vs 4) W := fun _ => by kernel_rfl
        have e0 := HF.out.due.cell (t := 0) (by omega)
        have e1 := HF.out.due.cell (t := 1) (by omega)
        have e2 := HF.out.due.cell (t := 2) (by omega)
        have e3 := HF.out.due.cell (t := 3) (by omega)
        have e4 := HF.out.due.cell (t := 4) (by omega)
        have HST2 : Hid (DueD w1 db (forL ps) vs ∧ (∀ t, t < 5 → (forL ps t).Perm (forL ps t)) ∧ QAt w1 rb (C.setIfInBounds 11 wv) T wv its ∧ Upd [some rb, wv0.ownBlock] w w1 ∧ w1.heap[w.heap.size]? = some (.cells #[.slice none 0 0, .slice none 0 0, .slice none 0 0, .slice none 0 0, .slice none 0 0] 196 (0, 0))) := ⟨HF.out.due, fun _ _ => List.Perm.refl _, HF.out.q, HF.out.upd, HF.out.res⟩
        go_wp2
        go_loopw [58] (fun v wr => ∃ (i : Nat) (D : Nat → List En), i ≤ 5 ∧ v = .int .i64 (i : Int) ∧ Hid (DueD wr db D vs ∧ (∀ t, t < 5 → (D t).Perm (forL ps t)) ∧ QAt wr rb (C.setIfInBounds 11 wv) T wv its ∧ Upd [some rb, wv0.ownBlock] w wr ∧ wr.heap[w.heap.size]? = some (.cells #[.slice none 0 0, .slice none 0 0, .slice none 0 0, .slice none 0 0, .slice none 0 0] 196 (0, 0)))) (fun v _ => 5 - (intOf v).toNat)
        case atStart => exact ⟨0, forL ps, by omega, rfl, HST2⟩
        case round =>
          obtain ⟨i, D, hi5, rfl, HJ⟩ := hrel
          clear e0 e1 e2 e3 e4 HST2
          by_cases hlt : i < 5
          · have HSRT : Hid (Calls Tryz.prog 139 #[vs i, .func (.func 140) #[] #[]] wr fun e w' => e = .returned (.tuple #[]) ∧ Hid (∃ D' : Nat → List En, DueD w' db D' vs ∧ (∀ t, t < 5 → (D' t).Perm (forL ps t)) ∧ QAt w' rb (C.setIfInBounds 11 wv) T wv its ∧ Upd [some rb, wv0.ownBlock] w w' ∧ w'.heap[w.heap.size]? = some (.cells #[.slice none 0 0, .slice none 0 0, .slice none 0 0, .slice none 0 0, .slice none 0 0] 196 (0, 0)))) := sort_one hrl (by omega) HWL.out (fun t ht => by obtain ⟨rest, hp⟩ := HF.out.pop; exact Nat.le_trans (forL_le hp t) (h12 t)) HF.out.far HF.out.own hlt HJ.out
            rcases (show i = 0 ∨ i = 1 ∨ i = 2 ∨ i = 3 ∨ i = 4 by omega) with rfl | rfl | rfl | rfl | rfl
            all_goals go_wp2_with (go_at_call 139; refine HSRT.out.mono ?_; rintro e w' ⟨rfl, HR⟩)
            all_goals
              go_roundw
              case rel => obtain ⟨D', h'⟩ := HR.out; exact ⟨_, D', by decide, rfl, h'⟩
              case measure => simp [intOf]
          · obtain rfl : i = 5 := by omega
            have e0 := HJ.out.1.cell (t := 0) (by omega)
            have e1 := HJ.out.1.cell (t := 1) (by omega)
            have e2 := HJ.out.1.cell (t := 2) (by omega)
            have e3 := HJ.out.1.cell (t := 3) (by omega)
            have e4 := HJ.out.1.cell (t := 4) (by omega)
            have k0 := HJ.out.2.2.2.2
            have z0 : wr.cell? ⟨w.heap.size, 0, none⟩ = some (.slice none 0 0) := by rw [cell_of_heap k0]; rfl
            have z1 : wr.cell? ⟨w.heap.size, 1, none⟩ = some (.slice none 0 0) := by rw [cell_of_heap k0]; rfl
            have z2 : wr.cell? ⟨w.heap.size, 2, none⟩ = some (.slice none 0 0) := by rw [cell_of_heap k0]; rfl
            have z3 : wr.cell? ⟨w.heap.size, 3, none⟩ = some (.slice none 0 0) := by rw [cell_of_heap k0]; rfl
            have z4 : wr.cell? ⟨w.heap.size, 4, none⟩ = some (.slice none 0 0) := by rw [cell_of_heap k0]; rfl
            have zf := frozen_of_heap k0
            clear k0
            obtain ⟨p0, q0, hv0⟩ := own_form (HJ.out.1.row 0 (by omega))
            obtain ⟨p1, q1, hv1⟩ := own_form (HJ.out.1.row 1 (by omega))
            obtain ⟨p2, q2, hv2⟩ := own_form (HJ.out.1.row 2 (by omega))
            obtain ⟨p3, q3, hv3⟩ := own_form (HJ.out.1.row 3 (by omega))
            obtain ⟨p4, q4, hv4⟩ := own_form (HJ.out.1.row 4 (by omega))
            have HE := due_end hrl (by omega) HWL.out HF.out HD.out (fun t ht => by obtain ⟨rest, hp⟩ := HF.out.pop; exact Nat.le_trans (forL_le hp t) (h12 t)) HJ.out
            go_wp2
            exact bodyPost_ret (v := .agg #[vs 0, vs 1, vs 2, vs 3, vs 4]) (by simp [results, Tryz.results101, go_sem, z0, z1, z2, z3, z4, hv0, hv1, hv2, hv3, hv4]) rfl ⟨vs, D, its, wv, rfl, HE _ _ _ _ _⟩

end Go.Proofs.YtckmppkdpnhodaaGreatDoor
