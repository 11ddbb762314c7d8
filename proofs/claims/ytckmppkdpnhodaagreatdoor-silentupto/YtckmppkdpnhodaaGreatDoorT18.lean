/-
  (*Replica).Do, where it is done: while the new command is being put to the others, purely.
-/
import Derived.Test.YtckmppkdpnhodaaGreatDoorT17
namespace Go.Proofs.YtckmppkdpnhodaaGreatDoor
set_option linter.unusedVariables false
set_option linter.unusedSimpArgs false
open Go.RowKit Go.Proofs Go.MuLone

/-- An item that is due at once. -/
def mkIt (now t : Nat) (x : En) : It := if h : now < 1152921504606846976 ∧ t < 5 then ⟨now, t, x, h.1, h.2⟩ else ⟨0, 0, x, by omega, by omega⟩

/-- The items of a command for the first j replicas. -/
def newIts (me now : Nat) (x : En) (j : Nat) : List It := ((List.range j).filter fun t => decide (t ≠ me)).map fun t => mkIt now t x

theorem newIts_me (me now : Nat) (x : En) : newIts me now x (me + 1) = newIts me now x me := by simp [newIts, List.range_succ]
theorem newIts_other (me now : Nat) (x : En) {j : Nat} (h : j ≠ me) : newIts me now x (j + 1) = newIts me now x j ++ [mkIt now j x] := by simp [newIts, List.range_succ, h]
theorem newIts_len (me now : Nat) (x : En) (j : Nat) : (newIts me now x j).length ≤ j := by
  unfold newIts
  rw [List.length_map]
  have := List.length_filter_le (fun t => decide (t ≠ me)) (List.range j)
  simpa using this

theorem mkIt_to {now t : Nat} {x : En} (hn : now < 1152921504606846976) (ht : t < 5) : mkIt now t x = ⟨now, t, x, hn, ht⟩ := dif_pos ⟨hn, ht⟩

theorem newIts_wait {n me now : Nat} {x : En} (hn : now < 1152921504606846976) (h5 : n ≤ 5) {j : Nat} (hj : j < n) (hm : j ≠ me) : waitL (newIts me now x n) j = [x] := by
  have : ∀ m, m ≤ n → waitL (newIts me now x m) j = if j < m then [x] else [] := fun m => by
    induction m with
    | zero => intro _; simp [newIts, waitL]
    | succ m ih =>
      intro hmn
      have hi := ih (by omega)
      by_cases e : m = me
      · rw [e] at hi ⊢
        rw [newIts_me, hi]
        by_cases h : j < me
        · rw [if_pos h, if_pos (by omega)]
        · rw [if_neg h, if_neg (by omega)]
      · rw [newIts_other _ _ _ e, mkIt_to hn (by omega)]
        have ha : ∀ (a b : List It), waitL (a ++ b) j = waitL a j ++ waitL b j := fun a b => by simp [waitL]
        rw [ha, hi]
        by_cases h : m = j
        · subst h; simp [waitL]
        · have h2 : waitL [⟨now, m, x, hn, by omega⟩] j = [] := by simp [waitL, h]
          rw [h2, List.append_nil]
          by_cases h3 : j < m
          · rw [if_pos h3, if_pos (by omega)]
          · rw [if_neg h3, if_neg (by omega)]
  rw [this n (Nat.le_refl _), if_pos hj]

theorem newIts_mem {n me now : Nat} {x : En} (hn : now < 1152921504606846976) (h5 : n ≤ 5) {p : It} (hp : p ∈ newIts me now x n) : p.to < n ∧ p.to ≠ me ∧ p.due = now := by
  simp only [newIts, List.mem_map, List.mem_filter, List.mem_range, decide_eq_true_eq] at hp
  obtain ⟨t, ⟨h1, h2⟩, rfl⟩ := hp
  rw [mkIt_to hn (by omega)]
  exact ⟨h1, h2, rfl⟩

/-- While the new command is being put: j replicas are done. -/
structure SendG (w : World) (rb n me : Nat) (log : List En) (x : En) (now : Nat) (its : List It) (ow : Nat → Bool) (ev wv : Value) (eb : Nat) (ev' : Value) (j : Nat) (W : World) (wj : Value) : Prop where
  rbk : W.heap[rb]? = some (.cells (repG 1 n me (reachOf (log ++ [x])) now ow ev' wj) 113 (0, 0))
  erow : W.ownsRow 0 122 10 ev' (log.length + 1) (enRow (log ++ [x]))
  eB : ∀ b, ev'.ownBlock = some b → b ≠ rb ∧ (ev.ownBlock = some b ∨ w.heap.size ≤ b)
  row : ∃ its', W.ownsRow 0 171 12 wj its'.length (itRow its') ∧ its'.Perm (its ++ newIts me now x j) ∧ HeapFrom 0 its'.length (kF its')
  wB : ∀ b, wj.ownBlock = some b → b ≠ rb ∧ ev'.ownBlock ≠ some b ∧ (wv.ownBlock = some b ∨ w.heap.size ≤ b)
  ent : W.heap[eb]? = some (.cells #[.int .i64 (me : Int), .int .i64 (x.seq : Int), .int .i64 (x.ah.a : Int), .int .i64 (x.ah.b : Int), .int .i64 (x.ah.c : Int), .int .i64 (x.ah.d : Int), .int .i64 (x.ah.e : Int), .int .i64 (x.c.k.num : Int), .string x.c.word, .int .i64 (x.c.count : Int)] 122 (0, 0))
  ebl : w.heap.size ≤ eb ∧ ev'.ownBlock ≠ some eb ∧ wj.ownBlock ≠ some eb
  upd : Upd [some rb, ev.ownBlock, wv.ownBlock] w W

section
variable {w : World} {rb n me : Nat} {log : List En} {x : En} {now : Nat} {its : List It} {ow : Nat → Bool} {ev wv : Value} {eb : Nat} {ev' : Value} {j : Nat} {W : World} {wj : Value}

theorem SendG.drew (h : SendG w rb n me log x now its ow ev wv eb ev' j W wj) : SendG w rb n me log x now its ow ev wv eb ev' j W.drew wj := ⟨h.rbk, h.erow, h.eB, h.row, h.wB, h.ent, h.ebl, h.upd.drew⟩

theorem SendG.boxput (h : SendG w rb n me log x now its ow ev wv eb ev' j W wj) (hi : its.length ≤ 900) (hnow : now < 1152921504606846976) (hj5 : j < 5) (hxo : x.org = me) (hrl : rb < w.heap.size) (hjm : j ≠ me) :
    Calls Tryz.prog 50 #[.pointer (some ⟨rb, 10, none⟩), .int .i64 (j : Int), .agg #[.int .i64 (me : Int), .int .i64 (x.seq : Int), .int .i64 (x.ah.a : Int), .int .i64 (x.ah.b : Int), .int .i64 (x.ah.c : Int), .int .i64 (x.ah.d : Int), .int .i64 (x.ah.e : Int), .int .i64 (x.c.k.num : Int), .string x.c.word, .int .i64 (x.c.count : Int)]] W fun e w' => e = .returned (.tuple #[]) ∧ ∃ wj', SendG w rb n me log x now its ow ev wv eb ev' (j + 1) w' wj' := by
  obtain ⟨its1, r1, r2, r3⟩ := h.row
  have hlen := r2.length_eq
  rw [List.length_append] at hlen
  have hnl := newIts_len me now x j
  have hq : QAt W rb (repG 1 n me (reachOf (log ++ [x])) now ow ev' wj) 113 wj its1 := ⟨h.rbk, rfl, r1, fun e => (h.wB rb e).1 rfl⟩
  have hput := boxputG rb its1 (by omega) now j x hnow hj5 wj _ _ W hq r3 rfl
  unfold En.val at hput
  rw [hxo] at hput
  refine hput.mono ?_
  rintro e w' ⟨rfl, its', g, cap, o1, o2, o3⟩
  have heb := (Array.getElem?_eq_some_iff.1 h.ent).1
  have keep : ∀ b, b ≠ rb → wj.ownBlock ≠ some b → some b ∉ [some rb, wj.ownBlock] := fun b h1 h2 hm => by
    simp only [List.mem_cons, List.not_mem_nil, or_false, Option.some.injEq] at hm
    rcases hm with hm | hm
    · exact h1 hm
    · exact h2 hm.symm
  refine ⟨rfl, .slice (some ⟨g, 0, none⟩) its'.length cap, by rw [o1.rbk, repG_box], o1.upd.owns h.erow fun b hb => keep b (h.eB b hb).1 fun e => (h.wB b e).2.1 hb, h.eB, ⟨its', o1.row, ?_, o3⟩, ?_, (o1.upd.block eb heb (keep eb (by have := h.ebl.1; omega) h.ebl.2.2)).trans h.ent, ⟨h.ebl.1, h.ebl.2.1, ?_⟩, h.upd.trans o1.upd fun i hi => ?_⟩
  · rw [newIts_other _ _ _ hjm, mkIt_to hnow hj5, ← List.append_assoc]
    exact o2.trans (r2.append_right _)
  · intro b hb
    simp only [Value.ownBlock, Option.some.injEq] at hb
    have hb' : b = g := hb.symm
    subst hb'
    refine ⟨o1.ne, ?_, ?_⟩
    · rcases o1.own with h2 | h2
      · exact (h.wB b h2).2.1
      · intro e; have := (h.erow.lt b e).2; omega
    · rcases o1.own with h2 | h2
      · exact (h.wB b h2).2.2
      · exact .inr (Nat.le_trans h.upd.size h2)
  · intro e
    simp only [Value.ownBlock, Option.some.injEq] at e
    have e' : g = eb := e
    rcases o1.own with h2 | h2
    · exact h.ebl.2.2 (e' ▸ h2)
    · omega
  · simp only [List.mem_cons, List.not_mem_nil, or_false] at hi
    rcases hi with hi | hi
    · exact .inl (by simp [hi])
    · rcases (h.wB i hi.symm).2.2 with h2 | h2
      · exact .inl (by simp [h2])
      · exact .inr h2

theorem sendG_start (hk : RepQ (w.setCell ⟨rb, 0, none⟩ (.int .i32 1)) rb n me 1 log now its ow ev wv) (hrl : rb < w.heap.size) (hwl : ∀ b, wv.ownBlock = some b → b < w.heap.size)
    {w7 Wf : World} {g cap : Nat} (hW : Below w.heap.size (w.setCell ⟨rb, 0, none⟩ (.int .i32 1)) W)
    (o1 : w7.ownsRow 0 122 10 (.slice (some ⟨g, 0, none⟩) (log.length + 1) cap) (log.length + 1) (enRow (log ++ [x]))) (o2 : ev.ownBlock = some g ∨ W.heap.size ≤ g) (o3 : g ≠ rb)
    (o4 : w7.heap[rb]? = some (.cells (repG 1 n me (reachOf (log ++ [x])) now ow (.slice (some ⟨g, 0, none⟩) (log.length + 1) cap) wv) 113 (0, 0))) (o5 : Upd [some rb, ev.ownBlock] W w7)
    (he : Wf.heap[eb]? = some (.cells #[.int .i64 (me : Int), .int .i64 (x.seq : Int), .int .i64 (x.ah.a : Int), .int .i64 (x.ah.b : Int), .int .i64 (x.ah.c : Int), .int .i64 (x.ah.d : Int), .int .i64 (x.ah.e : Int), .int .i64 (x.c.k.num : Int), .string x.c.word, .int .i64 (x.c.count : Int)] 122 (0, 0))) (hu : Upd [some eb] w7 Wf) (hew : w.heap.size ≤ eb) (hge : g ≠ eb) :
    SendG w rb n me log x now its ow ev wv eb (.slice (some ⟨g, 0, none⟩) (log.length + 1) cap) 0 Wf wv := by
  have hsz : w.heap.size ≤ W.heap.size := by have := hW.size; rwa [size_setCell] at this
  have ne : ∀ b, b ≠ eb → some b ∉ [some eb] := fun b hb hm => by simp at hm; exact hb hm
  have hkW := hk.below (by rw [size_setCell]; exact hW)
  have hw7 : w7.ownsRow 0 171 12 wv its.length (itRow its) := by
    refine o5.owns hkW.wrow fun b hb hm => ?_
    simp only [List.mem_cons, List.not_mem_nil, or_false, Option.some.injEq] at hm
    rcases hm with hm | hm
    · exact hk.wN (by rw [hb, hm])
    · exact hk.ew b hb hm.symm
  refine ⟨(hu.block rb (Array.getElem?_eq_some_iff.1 o4).1 (ne rb (by omega))).trans o4, hu.owns o1 fun b hb => ne b (by cases hb; exact hge), fun b hb => ?_, ⟨its, hu.owns hw7 fun b hb => ne b (by have := hwl b hb; omega), by simp [newIts], hk.heap⟩, fun b hb => ⟨fun e => hk.wN (by rw [hb, e]), ?_, .inl hb⟩, he, ⟨hew, fun e => hge (by cases e; rfl), fun e => by have := hwl eb e; omega⟩, ?_⟩
  · cases hb
    refine ⟨o3, ?_⟩
    rcases o2 with h | h
    · exact .inl h
    · exact .inr (by show w.heap.size ≤ g; omega)
  · intro e
    have e' : g = b := by cases e; rfl
    rcases o2 with h | h
    · exact hk.ew b hb (e' ▸ h)
    · have := hwl b hb; omega
  · have u0 : Upd [some rb, ev.ownBlock, wv.ownBlock] w (w.setCell ⟨rb, 0, none⟩ (.int .i32 1)) := (Upd.refl _ w).setCell (.inl (by simp)) _
    have u1 : Upd [some rb, ev.ownBlock, wv.ownBlock] w W := u0.trans (Upd.of_below (S := []) (by rw [size_setCell]; exact hW)) (by simp)
    have u2 : Upd [some rb, ev.ownBlock, wv.ownBlock] w w7 := u1.trans o5 fun i hi => .inl (by
      simp only [List.mem_cons, List.not_mem_nil, or_false] at hi ⊢
      rcases hi with hi | hi
      · exact .inl hi
      · exact .inr (.inl hi))
    exact u2.trans hu fun i hi => .inr (by simp at hi; omega)

end

end Go.Proofs.YtckmppkdpnhodaaGreatDoor
