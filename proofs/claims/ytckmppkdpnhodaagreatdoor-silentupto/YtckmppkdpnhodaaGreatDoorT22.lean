/-
  (*Box).takeDue: what is due, by those to whom it goes. In memory, purely.
-/
import Derived.Test.YtckmppkdpnhodaaGreatDoorT20
import Derived.Test.YtckmppkdpnhodaaGreatDoorT21
namespace Go.Proofs.YtckmppkdpnhodaaGreatDoor
set_option linter.unusedVariables false
set_option linter.unusedSimpArgs false
open Go.RowKit Go.Proofs

/-- Five lists of entries, each in a block of its own behind the block of the five. -/
structure DueD (W : World) (db : Nat) (D : Nat → List En) (vs : Nat → Value) : Prop where
  blk : W.heap[db]? = some (.cells #[vs 0, vs 1, vs 2, vs 3, vs 4] 196 (0, 0))
  row : ∀ t, t < 5 → W.ownsRow (db + 1) 122 10 (vs t) (D t).length (enRow (D t))
  apart : ∀ t u, t < 5 → u < 5 → t ≠ u → ∀ b, (vs t).ownBlock = some b → (vs u).ownBlock ≠ some b

theorem five_get (vs : Nat → Value) {t : Nat} (h : t < 5) : (#[vs 0, vs 1, vs 2, vs 3, vs 4] : Array Value)[t]? = some (vs t) := by
  rcases (show t = 0 ∨ t = 1 ∨ t = 2 ∨ t = 3 ∨ t = 4 by omega) with rfl | rfl | rfl | rfl | rfl <;> rfl

theorem five_set (vs : Nat → Value) {t : Nat} (h : t < 5) (v : Value) : (#[vs 0, vs 1, vs 2, vs 3, vs 4] : Array Value).setIfInBounds t v = #[if 0 = t then v else vs 0, if 1 = t then v else vs 1, if 2 = t then v else vs 2, if 3 = t then v else vs 3, if 4 = t then v else vs 4] := by
  rcases (show t = 0 ∨ t = 1 ∨ t = 2 ∨ t = 3 ∨ t = 4 by omega) with rfl | rfl | rfl | rfl | rfl <;> simp

section
variable {W W' : World} {db : Nat} {D : Nat → List En} {vs : Nat → Value}

theorem DueD.keep (h : DueD W db D vs) {S : List (Option Nat)} (hu : Upd S W W') (h1 : some db ∉ S) (h2 : ∀ t, t < 5 → ∀ b, (vs t).ownBlock = some b → some b ∉ S) : DueD W' db D vs :=
  ⟨(hu.block db (Array.getElem?_eq_some_iff.1 h.blk).1 h1).trans h.blk, fun t ht => hu.owns (h.row t ht) (h2 t ht), h.apart⟩

theorem DueD.cell (h : DueD W db D vs) {t : Nat} (ht : t < 5) : W.cell? ⟨db, t, none⟩ = some (vs t) := by rw [cell_of_heap h.blk]; exact five_get vs ht

theorem DueD.push (h : DueD W db D vs) {t : Nat} (ht : t < 5) {x : En} {g cap : Nat} (ho : W'.ownsRow (db + 1) 122 10 (.slice (some ⟨g, 0, none⟩) ((D t).length + 1) cap) ((D t).length + 1) (enRow (D t) ++ x.cells)) (hat : (vs t).ownBlock = some g ∨ W.heap.size ≤ g) (hu : Upd [(vs t).ownBlock] W W') :
    DueD (W'.setCell ⟨db, t, none⟩ (.slice (some ⟨g, 0, none⟩) ((D t).length + 1) cap)) db (fun u => if u = t then D t ++ [x] else D u) (fun u => if u = t then .slice (some ⟨g, 0, none⟩) ((D t).length + 1) cap else vs u) := by
  have hdl := (Array.getElem?_eq_some_iff.1 h.blk).1
  have hgd : db < g := by
    rcases hat with h1 | h1
    · exact own_ge (h.row t ht) h1
    · omega
  have hdb : W'.heap[db]? = some (.cells #[vs 0, vs 1, vs 2, vs 3, vs 4] 196 (0, 0)) := (hu.block db hdl fun hm => by
    simp only [List.mem_cons, List.not_mem_nil, or_false] at hm
    have := own_ge (h.row t ht) hm.symm
    omega).trans h.blk
  refine ⟨?_, fun u hu5 => ?_, fun u v hu5 hv5 huv b hb => ?_⟩
  · rw [heap_setCell_same hdb, five_set vs ht]
  · by_cases e : u = t
    · subst e
      simp only [if_pos]
      rw [List.length_append, enRow_snoc]
      exact owns_setCell_other ho (fun b hb => by cases hb; show g ≠ db; omega) _
    · simp only [if_neg e]
      refine owns_setCell_other (hu.owns (h.row u hu5) fun b hb hm => ?_) (fun b hb => by have := own_ge (h.row u hu5) hb; show b ≠ db; omega) _
      simp only [List.mem_cons, List.not_mem_nil, or_false] at hm
      exact h.apart u t hu5 ht e b hb hm.symm
  · have hnew : ∀ w', w' < 5 → w' ≠ t → (vs w').ownBlock ≠ some g := fun w' hw hne e => by
      rcases hat with h1 | h1
      · exact h.apart w' t hw ht hne g e h1
      · have := (h.row w' hw).lt g e; omega
    by_cases eu : u = t
    · subst eu
      simp only [if_pos] at hb
      have hbg : b = g := by cases hb; rfl
      subst hbg
      simp only [if_neg (Ne.symm huv)]
      exact hnew v hv5 (Ne.symm huv)
    · simp only [if_neg eu] at hb
      by_cases ev : v = t
      · subst ev
        simp only [if_pos]
        intro e
        have : g = b := by cases e; rfl
        subst this
        exact hnew u hu5 eu hb
      · simp only [if_neg ev]
        exact h.apart u v hu5 hv5 huv b hb

theorem DueD.start (hb : W.heap[db]? = some (.cells #[.slice none 0 0, .slice none 0 0, .slice none 0 0, .slice none 0 0, .slice none 0 0] 196 (0, 0))) : DueD W db (fun _ => []) (fun _ => .slice none 0 0) :=
  ⟨hb, fun _ _ => ⟨rfl, .inl ⟨rfl, rfl⟩⟩, fun _ _ _ _ _ _ hb => by simp [Value.ownBlock] at hb⟩

theorem DueD.congr (h : DueD W db D vs) {D' : Nat → List En} (he : ∀ t, t < 5 → D' t = D t) : DueD W db D' vs :=
  ⟨h.blk, fun t ht => by rw [he t ht]; exact h.row t ht, h.apart⟩

end

/-- While what is due is being popped: its, ps: what waits now, what was popped. -/
structure TakeI (w : World) (rb : Nat) (C : Array Value) (T : TypeId) (wv0 : Value) (now : Nat) (its0 : List It) (db : Nat) (W : World) (its ps : List It) (wv : Value) (vs : Nat → Value) : Prop where
  q : QAt W rb (C.setIfInBounds 11 wv) T wv its
  heap : HeapFrom 0 its.length (kF its)
  pop : ∃ rest, Popped now its0 its ps rest
  own : ∀ b, wv.ownBlock = some b → wv0.ownBlock = some b ∨ db < b
  due : DueD W db (forL ps) vs
  far : ∀ t, t < 5 → ∀ b, (vs t).ownBlock = some b → wv.ownBlock ≠ some b
  upd : Upd [some rb, wv0.ownBlock] w W
  res : W.heap[w.heap.size]? = some (.cells #[.slice none 0 0, .slice none 0 0, .slice none 0 0, .slice none 0 0, .slice none 0 0] 196 (0, 0))

theorem Popped.len {now : Nat} {its0 its ps rest : List It} (h : Popped now its0 its ps rest) : its.length = its0.length := by
  rw [h.cur.length_eq, h.all.length_eq, List.length_append, List.length_append, List.length_map]; omega

theorem QAt.drewN {w : World} {rb : Nat} {C : Array Value} {T : TypeId} {wv : Value} {its : List It} (h : QAt w rb C T wv its) (k : Nat) : QAt (w.drewN k) rb C T wv its := ⟨h.rbk, h.c11, h.row, h.ne⟩

theorem TakeI.drewN {w : World} {rb : Nat} {C : Array Value} {T : TypeId} {wv0 : Value} {now : Nat} {its0 : List It} {db : Nat} {W : World} {its ps : List It} {wv : Value} {vs : Nat → Value} (h : TakeI w rb C T wv0 now its0 db W its ps wv vs) (k : Nat) : TakeI w rb C T wv0 now its0 db (W.drewN k) its ps wv vs :=
  ⟨h.q.drewN k, h.heap, h.pop, h.own, ⟨h.due.blk, h.due.row, h.due.apart⟩, h.far, h.upd.drewN k, h.res⟩

/-- How long the list is that lies in a cell. -/
def lenAt (W : World) (db t : Nat) : Nat := match W.cell? ⟨db, t, none⟩ with | some (.slice _ n _) => n | _ => 0

theorem DueD.lenAt {W : World} {db : Nat} {D : Nat → List En} {vs : Nat → Value} (h : DueD W db D vs) {t : Nat} (ht : t < 5) : lenAt W db t = (D t).length := by
  obtain ⟨p, c, hv⟩ := own_form (h.row t ht)
  unfold Go.Proofs.YtckmppkdpnhodaaGreatDoor.lenAt
  rw [h.cell ht, hv]

theorem forL_sum (ps : List It) : (forL ps 0).length + (forL ps 1).length + (forL ps 2).length + (forL ps 3).length + (forL ps 4).length = ps.length := by
  induction ps with
  | nil => rfl
  | cons p ps ih =>
    have e : ∀ t, (forL (p :: ps) t).length = (forL ps t).length + if p.to = t then 1 else 0 := fun t => by
      unfold forL
      rw [List.filter_cons]
      by_cases h : p.to = t <;> simp [h]
    rw [e, e, e, e, e, List.length_cons]
    have := p.ht
    rcases (show p.to = 0 ∨ p.to = 1 ∨ p.to = 2 ∨ p.to = 3 ∨ p.to = 4 by omega) with h | h | h | h | h <;> simp [h] <;> omega

/-- How many have been popped, read in memory. -/
def popAt (W : World) (db : Nat) : Nat := lenAt W db 0 + lenAt W db 1 + lenAt W db 2 + lenAt W db 3 + lenAt W db 4

theorem TakeI.popAt {w : World} {rb : Nat} {C : Array Value} {T : TypeId} {wv0 : Value} {now : Nat} {its0 : List It} {db : Nat} {W : World} {its ps : List It} {wv : Value} {vs : Nat → Value} (h : TakeI w rb C T wv0 now its0 db W its ps wv vs) : popAt W db = ps.length ∧ ps.length ≤ its0.length := by
  refine ⟨?_, ?_⟩
  · unfold Go.Proofs.YtckmppkdpnhodaaGreatDoor.popAt
    rw [h.due.lenAt (by omega), h.due.lenAt (by omega), h.due.lenAt (by omega), h.due.lenAt (by omega), h.due.lenAt (by omega), forL_sum]
  · obtain ⟨rest, hp⟩ := h.pop
    rw [hp.all.length_eq, List.length_append]; omega

/-- The root is not due: none is. -/
theorem none_due {its : List It} (hh : HeapFrom 0 its.length (kF its)) {now : Nat} (h : its = [] ∨ now < kF its 0) : ∀ p ∈ its, now < p.due := fun p hp => by
  rcases h with h | h
  · rw [h] at hp; simp at hp
  · obtain ⟨i, hi, rfl⟩ := List.mem_iff_getElem.1 hp
    have := hh.root i hi
    rw [kF_get hi] at this
    omega

section
variable {w w1 w2 w3 w6 w7 w8 : World} {rb : Nat} {C : Array Value} {T : TypeId} {wv0 : Value} {now : Nat} {its0 : List It} {db : Nat} {its ps its1 its2 : List It} {wv : Value} {vs : Nat → Value} {x : It} {g1 cap1 g5 cap5 m g8 cap8 : Nat}

/-- The blocks of the lists, while an item is popped, told and put back. -/
theorem TakeI.blocks (h : TakeI w rb C T wv0 now its0 db w1 its ps wv vs) (hrl : rb < w.heap.size) (hdb : w.heap.size ≤ db) (hwl : ∀ b, wv0.ownBlock = some b → b < w.heap.size) (q2 : QTo w1 rb (C.setIfInBounds 11 wv) T wv its1 g1 cap1 w2) (hs3 : w3.heap.size = w2.heap.size + 1) (hg5 : (vs x.to).ownBlock = some g5 ∨ w3.heap.size < g5) :
    (wv0.ownBlock = some g1 ∨ db < g1) ∧ g1 ≠ db ∧ g1 < w2.heap.size ∧ ∀ t, t < 5 → ∀ b, (if t = x.to then (Value.slice (some ⟨g5, 0, none⟩) m cap5) else vs t).ownBlock = some b → db < b ∧ b ≠ g1 ∧ b ≠ w2.heap.size := by
  have hs2 := q2.upd.size
  have hdl : db < w1.heap.size := (Array.getElem?_eq_some_iff.1 h.due.blk).1
  have hg1 : g1 < w2.heap.size := (q2.row.lt g1 rfl).2
  have ho1 : wv0.ownBlock = some g1 ∨ db < g1 := by
    rcases q2.own with h1 | h1
    · exact h.own g1 h1
    · exact .inr (by omega)
  have hold : ∀ t, t < 5 → ∀ b, (vs t).ownBlock = some b → db < b ∧ b ≠ g1 ∧ b ≠ w2.heap.size := fun t ht b hb => by
    have h1 := own_ge (h.due.row t ht) hb
    have h2 := ((h.due.row t ht).lt b hb).2
    refine ⟨h1, fun e => ?_, by omega⟩
    subst e
    rcases q2.own with h3 | h3
    · exact h.far t ht b hb h3
    · omega
  refine ⟨ho1, fun e => ?_, hg1, fun t ht b hb => ?_⟩
  · rcases ho1 with h1 | h1
    · have := hwl g1 h1; omega
    · omega
  · by_cases e : t = x.to
    · rw [if_pos e] at hb
      have hbg : b = g5 := by cases hb; rfl
      subst hbg
      rcases hg5 with h5 | h5
      · exact hold x.to x.ht b h5
      · exact ⟨by omega, by omega, by omega⟩
    · rw [if_neg e] at hb
      exact hold t ht b hb

theorem TakeI.q7 (h : TakeI w rb C T wv0 now its0 db w1 its ps wv vs) (hrl : rb < w.heap.size) (hdb : w.heap.size ≤ db) (hwl : ∀ b, wv0.ownBlock = some b → b < w.heap.size) (q2 : QTo w1 rb (C.setIfInBounds 11 wv) T wv its1 g1 cap1 w2) (hs3 : w3.heap.size = w2.heap.size + 1)
    (hq3 : QAt w3 rb (C.setIfInBounds 11 (.slice (some ⟨g1, 0, none⟩) its1.length cap1)) T (.slice (some ⟨g1, 0, none⟩) its1.length cap1) its1) (u6 : Upd [(vs x.to).ownBlock, some db] w3 w6) (u7 : Upd [some w2.heap.size] w6 w7) :
    QAt w6 rb (C.setIfInBounds 11 (.slice (some ⟨g1, 0, none⟩) its1.length cap1)) T (.slice (some ⟨g1, 0, none⟩) its1.length cap1) its1 ∧ QAt w7 rb (C.setIfInBounds 11 (.slice (some ⟨g1, 0, none⟩) its1.length cap1)) T (.slice (some ⟨g1, 0, none⟩) its1.length cap1) its1 := by
  have hs2 := q2.upd.size
  have hdl : db < w1.heap.size := (Array.getElem?_eq_some_iff.1 h.due.blk).1
  obtain ⟨b1, b2, b3, b4⟩ := h.blocks (m := 0) (cap5 := 0) (x := x) (g5 := w3.heap.size + 1) hrl hdb hwl q2 hs3 (.inr (by omega))
  have hold : ∀ b, (vs x.to).ownBlock = some b → db < b ∧ b ≠ g1 := fun b hb => by
    have h1 := own_ge (h.due.row x.to x.ht) hb
    have h2 := ((h.due.row x.to x.ht).lt b hb).2
    refine ⟨h1, fun e => ?_⟩
    subst e
    rcases q2.own with h3 | h3
    · exact h.far x.to x.ht b hb h3
    · omega
  have q6 : QAt w6 rb (C.setIfInBounds 11 (.slice (some ⟨g1, 0, none⟩) its1.length cap1)) T (.slice (some ⟨g1, 0, none⟩) its1.length cap1) its1 := by
    refine ⟨(u6.block rb (by omega) fun hm => ?_).trans hq3.rbk, hq3.c11, u6.owns hq3.row fun b hb hm => ?_, hq3.ne⟩
    · simp only [List.mem_cons, List.not_mem_nil, or_false, Option.some.injEq] at hm
      rcases hm with hm | hm
      · have := (hold rb hm.symm).1; omega
      · omega
    · have hbg : b = g1 := by cases hb; rfl
      subst hbg
      simp only [List.mem_cons, List.not_mem_nil, or_false, Option.some.injEq] at hm
      rcases hm with hm | hm
      · exact (hold b hm.symm).2 rfl
      · exact b2 hm
  refine ⟨q6, (u7.block rb (by have := u6.size; omega) (by simp; omega)).trans q6.rbk, q6.c11, u7.owns q6.row fun b hb hm => ?_, q6.ne⟩
  have hbg : b = g1 := by cases hb; rfl
  subst hbg
  simp at hm
  omega

/-- An item was popped, told and put back. -/
theorem TakeI.step (h : TakeI w rb C T wv0 now its0 db w1 its ps wv vs) (hrl : rb < w.heap.size) (hdb : w.heap.size < db) (hwl : ∀ b, wv0.ownBlock = some b → b < w.heap.size) (hnow : now + 1 < 1152921504606846976) (hCs : 11 < C.size) (q2 : QTo w1 rb (C.setIfInBounds 11 wv) T wv its1 g1 cap1 w2) (qp : (x :: its1).Perm its) (qd : x.due ≤ now) (hbl3 : Below w2.heap.size w2 w3) (hs3 : w3.heap.size = w2.heap.size + 1)
    (hD6 : DueD w6 db (forL (ps ++ [x])) (fun u => if u = x.to then .slice (some ⟨g5, 0, none⟩) m cap5 else vs u)) (u6 : Upd [(vs x.to).ownBlock, some db] w3 w6) (hg5 : (vs x.to).ownBlock = some g5 ∨ w3.heap.size < g5) (u7 : Upd [some w2.heap.size] w6 w7)
    (q8 : QTo w7 rb (C.setIfInBounds 11 (.slice (some ⟨g1, 0, none⟩) its1.length cap1)) T (.slice (some ⟨g1, 0, none⟩) its1.length cap1) its2 g8 cap8 w8) (p8 : its2.Perm (its1 ++ [laterI now x])) (h8 : HeapFrom 0 its2.length (kF its2)) :
    TakeI w rb C T wv0 now its0 db w8 its2 (ps ++ [x]) (.slice (some ⟨g8, 0, none⟩) its2.length cap8) (fun u => if u = x.to then .slice (some ⟨g5, 0, none⟩) m cap5 else vs u) := by
  have hs2 := q2.upd.size
  have s6 := u6.size
  have s7 := u7.size
  have hdl : db < w1.heap.size := (Array.getElem?_eq_some_iff.1 h.due.blk).1
  obtain ⟨b1, b2, b3, b4⟩ := h.blocks (m := m) (cap5 := cap5) (x := x) (g5 := g5) hrl (by omega) hwl q2 hs3 hg5
  obtain ⟨rest, hp⟩ := h.pop
  have hD7 : DueD w7 db (forL (ps ++ [x])) (fun u => if u = x.to then .slice (some ⟨g5, 0, none⟩) m cap5 else vs u) := hD6.keep u7 (by simp; omega) fun t ht b hb => by
    have := (b4 t ht b hb).2.2
    simpa using this
  have hg8 : g8 = g1 ∨ w7.heap.size ≤ g8 := by
    rcases q8.own with h1 | h1
    · cases h1; exact .inl rfl
    · exact .inr h1
  refine ⟨?_, h8, hp.step hnow qp qd p8, fun b hb => ?_, hD7.keep q8.upd (fun hm => ?_) fun t ht b hb hm => ?_, fun t ht b hb e => ?_, ?_, ?_⟩
  · have := q8.at (by rw [Array.size_setIfInBounds]; exact hCs)
    rwa [Array.setIfInBounds_setIfInBounds] at this
  · have hbg : b = g8 := by cases hb; rfl
    subst hbg
    rcases hg8 with e | e
    · rw [e]; exact b1
    · exact .inr (by omega)
  · simp only [List.mem_cons, List.not_mem_nil, or_false, Option.some.injEq, Value.ownBlock] at hm
    rcases hm with hm | hm
    · omega
    · exact b2 hm.symm
  · simp only [List.mem_cons, List.not_mem_nil, or_false, Option.some.injEq, Value.ownBlock] at hm
    have := b4 t ht b hb
    rcases hm with hm | hm
    · omega
    · exact this.2.1 hm
  · have hbg : b = g8 := by cases e; rfl
    subst hbg
    rcases hg8 with e | e
    · exact (b4 t ht b hb).2.1 e
    · have := ((hD7.row t ht).lt b hb).2; omega
  · have v2 : Upd [some rb, wv0.ownBlock] w w2 := h.upd.trans q2.upd fun i hi => by
      simp only [List.mem_cons, List.not_mem_nil, or_false, Option.some.injEq] at hi
      rcases hi with hi | hi
      · exact .inl (by simp [hi])
      · rcases h.own i hi.symm with h1 | h1
        · exact .inl (by simp [h1])
        · exact .inr (by omega)
    have v3 : Upd [some rb, wv0.ownBlock] w w3 := v2.below hbl3
    have v6 : Upd [some rb, wv0.ownBlock] w w6 := v3.trans u6 fun i hi => by
      simp only [List.mem_cons, List.not_mem_nil, or_false, Option.some.injEq] at hi
      rcases hi with hi | hi
      · have := own_ge (h.due.row x.to x.ht) hi.symm; exact .inr (by omega)
      · exact .inr (by omega)
    have v7 : Upd [some rb, wv0.ownBlock] w w7 := v6.trans u7 fun i hi => by simp at hi; exact .inr (by have := h.upd.size; omega)
    exact v7.trans q8.upd fun i hi => by
      simp only [List.mem_cons, List.not_mem_nil, or_false, Option.some.injEq, Value.ownBlock] at hi
      rcases hi with hi | hi
      · exact .inl (by simp [hi])
      · subst hi
        rcases b1 with h1 | h1
        · exact .inl (by simp [h1])
        · exact .inr (by omega)
  · have hA := h.upd.size
    have a2 : w2.heap[w.heap.size]? = _ := (q2.upd.block _ (by omega) fun hm => by
      simp only [List.mem_cons, List.not_mem_nil, or_false, Option.some.injEq] at hm
      rcases hm with hm | hm
      · omega
      · rcases h.own _ hm.symm with h1 | h1
        · have := hwl _ h1; omega
        · omega).trans h.res
    have a3 := (hbl3.block w.heap.size (by omega)).trans a2
    have a6 := (u6.block w.heap.size (by omega) fun hm => by
      simp only [List.mem_cons, List.not_mem_nil, or_false, Option.some.injEq] at hm
      rcases hm with hm | hm
      · have := own_ge (h.due.row x.to x.ht) hm.symm; omega
      · omega).trans a3
    have a7 := (u7.block w.heap.size (by omega) (by simp; omega)).trans a6
    exact (q8.upd.block w.heap.size (by omega) fun hm => by
      simp only [List.mem_cons, List.not_mem_nil, or_false, Option.some.injEq, Value.ownBlock] at hm
      rcases hm with hm | hm
      · omega
      · rcases b1 with h1 | h1
        · have := hwl _ h1; omega
        · omega).trans a7

end

end Go.Proofs.YtckmppkdpnhodaaGreatDoor
