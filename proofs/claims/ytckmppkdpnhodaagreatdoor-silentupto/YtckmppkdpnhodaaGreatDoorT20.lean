/-
  A round, purely: who lacks something comes to know one command more at least. Rounds, purely: all come to know all, and then nothing waits. What a replica tells, purely; a round out of its parts; what is due, popped one by one. Replicas side by side in memory. slices.SortFunc over entries: whatever order they were in, they are there still.
-/
import Derived.Test.YtckmppkdpnhodaaGreatDoorT10
import Derived.Test.YtckmppkdpnhodaaGreatDoorT19
import Derived.Shelf.SlSortCmp.SmallK
import Derived.Shelf.SlicesG.Cmp
import Derived.Shelf.Small.Bits
import Derived.Ground.SlsfProg
import Derived.Ground.SlgcProg
import Derived.Ground.NamesProg
import Derived.Test.YtckmppkdpnhodaaGreatDoorT03
import Derived.Test.YtckmppkdpnhodaaGreatDoorSort
namespace Go.Proofs.YtckmppkdpnhodaaGreatDoor
set_option linter.unusedVariables false
set_option linter.unusedSimpArgs false
open Go.RowKit Go.Proofs

/-- Nothing but times, the order of what waits, and what is owed, turned. -/
theorem NetOk.still {n : Nat} {S S' : Nat → Sr} (hS : NetOk n S) (hl : ∀ i, i < n → (S' i).log = (S i).log) (hw : ∀ i, i < n → ∀ j, (waitL (S' i).its j).Perm (waitL (S i).its j)) (ht : ∀ i, i < n → ∀ p ∈ (S' i).its, p.due ≤ (S' i).now + 1) (ho : ∀ i, i < n → ∀ j, (S' i).owed j = true → (S i).owed j = true) : NetOk n S' := by
  refine ⟨fun i hi => ?_, fun i hi x hx => ?_, fun i hi j hj hji => ?_⟩
  · have h := hS.one i hi
    refine ⟨by rw [hl i hi]; exact h.log, by rw [hl i hi]; exact h.org, fun p hp => ?_, fun j => ?_, fun j hj => h.owe j (ho i hi j hj)⟩
    · obtain ⟨q, hq, he, _⟩ := mem_waitL.1 ((hw i hi p.to).mem_iff.1 (mem_waitL.2 ⟨p, hp, rfl, rfl⟩))
      have := h.to q hq
      rw [he] at this
      exact ⟨this.1, this.2.1, ht i hi p hp⟩
    · rw [← waitL_length, (hw i hi j).length_eq, waitL_length]; exact h.room j
  · rw [hl i hi] at hx
    have := hS.src i hi x hx
    rwa [hl _ ((hS.one i hi).org x hx)]
  · obtain ⟨a, h1, h2⟩ := hS.wait i hi j hj hji
    rw [hl i hi, hl j hj]
    exact ⟨a, h1, (hw i hi j).trans h2⟩

theorem take_grow (S : Nat → Sr) (L : Lt) (i : Nat) : ∃ l, (updS S L.dst (takeS (S L.dst) L) i).log = (S i).log ++ l := by
  by_cases e : i = L.dst
  · subst e; rw [updS_same]; exact learnAll_prefix _ _
  · rw [updS_other _ _ e]; exact ⟨[], by simp⟩

theorem take_own {n : Nat} {S : Nat → Sr} {L : Lt} (hL : LtOk n S L) (i : Nat) : ownL i (updS S L.dst (takeS (S L.dst) L) i).log = ownL i (S i).log := by
  by_cases e : i = L.dst
  · subst e; rw [updS_same]; exact learnAll_own fun x hx e => hL.ne (e ▸ (hL.es x hx).2)
  · rw [updS_other _ _ e]

def sumTo (n : Nat) (f : Nat → Nat) : Nat := ((List.range n).map f).sum

theorem sumTo_succ (n : Nat) (f : Nat → Nat) : sumTo (n + 1) f = sumTo n f + f n := by simp [sumTo, List.range_succ]

theorem sumTo_le {n : Nat} {f g : Nat → Nat} (h : ∀ i, i < n → f i ≤ g i) : sumTo n f ≤ sumTo n g := by
  induction n with
  | zero => exact Nat.le_refl _
  | succ n ih => rw [sumTo_succ, sumTo_succ]; have := ih fun i hi => h i (by omega); have := h n (by omega); omega

theorem sumTo_add (n : Nat) (f g : Nat → Nat) : sumTo n (fun i => f i + g i) = sumTo n f + sumTo n g := by
  induction n with
  | zero => rfl
  | succ n ih => rw [sumTo_succ, sumTo_succ, sumTo_succ, ih]; omega

theorem sumTo_congr {n : Nat} {f g : Nat → Nat} (h : ∀ i, i < n → f i = g i) : sumTo n f = sumTo n g := Nat.le_antisymm (sumTo_le fun i hi => Nat.le_of_eq (h i hi)) (sumTo_le fun i hi => Nat.le_of_eq (h i hi).symm)

theorem sumTo_one (n k : Nat) (hk : k < n) : sumTo n (fun i => if k = i then 1 else 0) = 1 := by
  induction n with
  | zero => omega
  | succ n ih =>
    rw [sumTo_succ]
    by_cases e : k = n
    · subst e
      rw [if_pos rfl, sumTo_congr (g := fun _ => 0) fun i hi => if_neg (by omega)]
      have : ∀ m, sumTo m (fun _ => 0) = 0 := fun m => by induction m with
        | zero => rfl
        | succ m ih => rw [sumTo_succ, ih]
      rw [this]
    · rw [if_neg e, ih (by omega)]

theorem length_sum {n : Nat} : ∀ {log : List En}, (∀ x ∈ log, x.org < n) → log.length = sumTo n (cntL log)
  | [], _ => by
    have : ∀ m, sumTo m (cntL []) = 0 := fun m => by induction m with
      | zero => rfl
      | succ m ih => rw [sumTo_succ, ih]; rfl
    rw [this]; rfl
  | x :: l, h => by
    have ih := length_sum (log := l) fun y hy => h y (by simp [hy])
    have e : sumTo n (cntL (x :: l)) = sumTo n (fun i => (if x.org = i then 1 else 0) + cntL l i) := sumTo_congr fun i _ => cntL_cons x l i
    rw [e, sumTo_add, sumTo_one n _ (h x (by simp)), ← ih, List.length_cons]; omega

/-- How many commands were done. -/
def totalS (n : Nat) (S : Nat → Sr) : Nat := sumTo n fun i => cntL (S i).log i

theorem NetOk.cnt_le {n : Nat} {S : Nat → Sr} (hS : NetOk n S) {i j : Nat} (hi : i < n) (hj : j < n) : cntL (S j).log i ≤ cntL (S i).log i := by
  rcases Nat.eq_zero_or_pos (cntL (S j).log i) with h | h
  · omega
  · obtain ⟨x, hx, ho, hs⟩ := (hS.one j hj).log.the (o := i) (s := cntL (S j).log i) h (Nat.le_refl _)
    have := hS.src j hj x hx
    rw [ho] at this
    have := ((hS.one i hi).log.place this).2.1
    rw [ho] at this
    omega

theorem NetOk.len_le {n : Nat} {S : Nat → Sr} (hS : NetOk n S) {j : Nat} (hj : j < n) : (S j).log.length ≤ totalS n S := by
  rw [length_sum (hS.one j hj).org]
  exact sumTo_le fun i hi => hS.cnt_le hi hj

end Go.Proofs.YtckmppkdpnhodaaGreatDoor

namespace Go.Proofs.YtckmppkdpnhodaaGreatDoor
set_option linter.unusedVariables false
set_option linter.unusedSimpArgs false
open Go.RowKit Go.Proofs

def tickS (s : Sr) : Sr := ⟨s.log, s.now + 1, s.its, s.owed⟩

theorem NetOk.tick1 {n : Nat} {S : Nat → Sr} (hS : NetOk n S) (k : Nat) : NetOk n (updS S k (tickS (S k))) := by
  have e : ∀ i, updS S k (tickS (S k)) i = if i = k then tickS (S i) else S i := fun i => by
    unfold updS
    split
    · subst_vars; rfl
    · rfl
  refine hS.still (fun i hi => ?_) (fun i hi j => ?_) (fun i hi p hp => ?_) fun i hi j h => ?_
  · rw [e]; split <;> rfl
  · rw [e]; split <;> exact List.Perm.refl _
  · rw [e] at hp ⊢
    split at hp
    · rw [if_pos (by assumption)]; exact Nat.le_trans ((hS.one i hi).to p hp).2.2 (Nat.le_succ _)
    · rw [if_neg (by assumption)]; exact ((hS.one i hi).to p hp).2.2
  · rw [e] at h; split at h <;> exact h

def Sr.empty : Sr := ⟨[], 0, [], fun _ => false⟩

theorem NetOk.empty (n : Nat) : NetOk n (fun _ => Sr.empty) :=
  ⟨fun _ _ => ⟨trivial, by simp [Sr.empty], by simp [Sr.empty], by simp [Sr.empty, cntI], by simp [Sr.empty]⟩, by simp [Sr.empty], fun _ _ _ _ _ => ⟨0, Nat.zero_le _, by simp [Sr.empty, waitL, ownL]⟩⟩

end Go.Proofs.YtckmppkdpnhodaaGreatDoor

namespace Go.Proofs.YtckmppkdpnhodaaGreatDoor
set_option linter.unusedVariables false
set_option linter.unusedSimpArgs false
open Go.RowKit Go.Proofs

/-- An item that was told is due again at the next tick. -/
def laterI (now : Nat) (p : It) : It := if h : p.due ≤ now ∧ now + 1 < 1152921504606846976 then ⟨now + 1, p.to, p.en, h.2, p.ht⟩ else p

theorem laterI_to (now : Nat) (p : It) : (laterI now p).to = p.to ∧ (laterI now p).en = p.en := by
  unfold laterI
  split <;> exact ⟨rfl, rfl⟩

theorem laterI_due {now : Nat} {p : It} (h : p.due ≤ now + 1) : (laterI now p).due ≤ now + 1 := by
  unfold laterI
  split
  · exact Nat.le_refl _
  · exact h

theorem waitL_later (now : Nat) (its : List It) (j : Nat) : waitL (its.map (laterI now)) j = waitL its j := by
  unfold waitL
  rw [List.filter_map, List.map_map]
  have h1 : ((fun p : It => decide (p.to = j)) ∘ laterI now) = fun p : It => decide (p.to = j) := funext fun p => by simp [(laterI_to now p).1]
  have h2 : ((fun p : It => p.en) ∘ laterI now) = fun p : It => p.en := funext fun p => by simp [(laterI_to now p).2]
  rw [h1, h2]

theorem waitL_perm {a b : List It} (h : a.Perm b) (j : Nat) : (waitL a j).Perm (waitL b j) := (h.filter _).map _

/-- A replica tells its letters. -/
structure FramesTo (n i : Nat) (s s' : Sr) (Ls : List Lt) : Prop where
  log : s'.log = s.log
  now : s'.now = s.now
  its : s'.its.Perm (s.its.map (laterI s.now))
  none : ∀ j, s'.owed j = false
  ok : ∀ L ∈ Ls, L.src = i ∧ L.dst < n ∧ L.dst ≠ i ∧ L.h = cntL s.log L.dst ∧ ∀ x ∈ L.es, x ∈ waitL s.its L.dst
  all : ∀ p ∈ s.its, p.due ≤ s.now → ∃ L ∈ Ls, L.dst = p.to ∧ p.en ∈ L.es
  owed : ∀ j, s.owed j = true → ∃ L ∈ Ls, L.dst = j

theorem NetOk.wait_mem {n : Nat} {S : Nat → Sr} (hS : NetOk n S) {i j : Nat} (hi : i < n) {x : En} (hx : x ∈ waitL (S i).its j) : x ∈ (S i).log ∧ x.org = i := by
  obtain ⟨p, hp, ht, _⟩ := mem_waitL.1 hx
  have h := (hS.one i hi).to p hp
  rw [ht] at h
  obtain ⟨a, _, hw⟩ := hS.wait i hi j h.1 h.2.1
  exact mem_ownL.1 (List.mem_of_mem_drop (hw.mem_iff.1 hx))

theorem NetOk.lets {n : Nat} {S : Nat → Sr} (hS : NetOk n S) {i : Nat} (hi : i < n) {s' : Sr} {Ls : List Lt} (h : FramesTo n i (S i) s' Ls) : ∀ L ∈ Ls, LtOk n S L ∧ L.h = cntL (S L.src).log L.dst := fun L hL => by
  obtain ⟨h1, h2, h3, h4, h5⟩ := h.ok L hL
  refine ⟨⟨by omega, h2, by omega, by rw [h1]; omega, fun x hx => ?_⟩, by rw [h1]; exact h4⟩
  rw [h1]
  exact hS.wait_mem hi (h5 x hx)

theorem NetOk.frames {n : Nat} {S : Nat → Sr} (hS : NetOk n S) {i : Nat} (hi : i < n) {s' : Sr} {Ls : List Lt} (h : FramesTo n i (S i) s' Ls) : NetOk n (updS S i s') := by
  refine hS.still (fun k hk => ?_) (fun k hk j => ?_) (fun k hk p hp => ?_) fun k hk j hj => ?_
  · by_cases e : k = i
    · subst e; rw [updS_same]; exact h.log
    · rw [updS_other _ _ e]
  · by_cases e : k = i
    · subst e
      rw [updS_same]
      have := waitL_perm h.its j
      rwa [waitL_later] at this
    · rw [updS_other _ _ e]
  · by_cases e : k = i
    · subst e
      rw [updS_same] at hp ⊢
      have := h.its.mem_iff.1 hp
      rw [List.mem_map] at this
      obtain ⟨q, hq, rfl⟩ := this
      rw [h.now]
      exact laterI_due ((hS.one k hk).to q hq).2.2
    · rw [updS_other _ _ e] at hp ⊢
      exact ((hS.one k hk).to p hp).2.2
  · by_cases e : k = i
    · subst e; rw [updS_same, h.none j] at hj; simp at hj
    · rwa [updS_other _ _ e] at hj

theorem updS_lt {n : Nat} {S : Nat → Sr} (hS : NetOk n S) {i : Nat} {s' : Sr} (hl : s'.log = (S i).log) {L : Lt} (hL : LtOk n S L) : LtOk n (updS S i s') L := hS.lt (fun k _ => ⟨[], by
  by_cases e : k = i
  · subst e; rw [updS_same, hl]; simp
  · rw [updS_other _ _ e]; simp⟩) hL

/-- What was told of the items that were due, one by one: processed, and still to come. -/
structure Popped (now : Nat) (its0 its : List It) (ps rest : List It) : Prop where
  all : its0.Perm (ps ++ rest)
  cur : its.Perm (rest ++ ps.map (laterI now))
  due : ∀ p ∈ ps, p.due ≤ now

theorem Popped.start (now : Nat) (its : List It) : Popped now its its [] its := ⟨List.Perm.refl _, by simp, by simp⟩

/-- The next one that is due is popped and put back for the next tick. -/
theorem Popped.step {now : Nat} (hb : now + 1 < 1152921504606846976) {its0 its ps rest : List It} (h : Popped now its0 its ps rest) {x : It} {its1 its2 : List It} (h1 : (x :: its1).Perm its) (hx : x.due ≤ now) (h2 : its2.Perm (its1 ++ [laterI now x])) : ∃ rest', Popped now its0 its2 (ps ++ [x]) rest' := by
  have hm : x ∈ rest ++ ps.map (laterI now) := (h1.trans h.cur).mem_iff.1 (by simp)
  have hr : x ∈ rest := by
    rcases List.mem_append.1 hm with hm | hm
    · exact hm
    · rw [List.mem_map] at hm
      obtain ⟨q, hq, rfl⟩ := hm
      have : laterI now q = ⟨now + 1, q.to, q.en, hb, q.ht⟩ := dif_pos ⟨h.due q hq, hb⟩
      rw [this] at hx
      simp at hx
      omega
  obtain ⟨r1, r2, hsp⟩ := List.append_of_mem hr
  have hp : rest.Perm (x :: (r1 ++ r2)) := by rw [hsp]; exact List.perm_middle
  refine ⟨r1 ++ r2, ?_, ?_, fun p hp' => ?_⟩
  · refine h.all.trans ?_
    rw [List.append_assoc]
    exact hp.append_left ps
  · have hc : (x :: its1).Perm (x :: ((r1 ++ r2) ++ ps.map (laterI now))) := h1.trans (h.cur.trans (hp.append_right _))
    have hc' := List.Perm.cons_inv hc
    refine h2.trans ?_
    rw [List.map_append, ← List.append_assoc]
    exact hc'.append_right _
  · rcases List.mem_append.1 hp' with h' | h'
    · exact h.due p h'
    · simp at h'; subst h'; exact hx

theorem Popped.done {now : Nat} {its0 its ps rest : List It} (h : Popped now its0 its ps rest) (hd : ∀ p ∈ its, now < p.due) : its.Perm (its0.map (laterI now)) ∧ ∀ p, p ∈ its0 → (p ∈ ps ↔ p.due ≤ now) := by
  have hr : ∀ p ∈ rest, now < p.due := fun p hp => hd p (h.cur.mem_iff.2 (List.mem_append_left _ hp))
  refine ⟨?_, fun p hp => ⟨h.due p, fun hle => ?_⟩⟩
  · refine h.cur.trans ?_
    have e : rest = rest.map (laterI now) := by
      conv => lhs; rw [← List.map_id rest]
      refine List.map_congr_left fun p hp => ?_
      have := hr p hp
      unfold laterI
      rw [dif_neg (by omega)]
      rfl
    have : (rest ++ ps.map (laterI now)) = rest.map (laterI now) ++ ps.map (laterI now) := by rw [← e]
    rw [this, ← List.map_append]
    exact ((List.perm_append_comm).trans h.all.symm).map _
  · rcases List.mem_append.1 (h.all.mem_iff.1 hp) with h' | h'
    · exact h'
    · have := hr p h'; omega

/-- What goes to a replica of those that were popped. -/
def forL (ps : List It) (t : Nat) : List En := (ps.filter fun p => decide (p.to = t)).map fun p => p.en

theorem forL_snoc (ps : List It) (x : It) (t : Nat) : forL (ps ++ [x]) t = forL ps t ++ if x.to = t then [x.en] else [] := by
  unfold forL
  rw [List.filter_append, List.map_append]
  by_cases h : x.to = t <;> simp [h]

theorem forL_le {now : Nat} {its0 its ps rest : List It} (h : Popped now its0 its ps rest) (t : Nat) : (forL ps t).length ≤ cntI its0 t := by
  have e : (forL ps t).length = cntI ps t := by simp [forL, cntI, List.countP_eq_length_filter]
  rw [e]
  unfold cntI
  rw [h.all.countP_eq, List.countP_append]
  omega

end Go.Proofs.YtckmppkdpnhodaaGreatDoor

namespace Go.Proofs.YtckmppkdpnhodaaGreatDoor
set_option linter.unusedVariables false
set_option linter.unusedSimpArgs false
open Go.RowKit Go.Proofs

/-- Where the replicas lie. -/
structure Side where
  rb : Nat → Nat
  ev : Nat → Value
  wv : Nat → Value
  its : Nat → List It

def Side.foot (d : Side) (i b : Nat) : Prop := b = d.rb i ∨ (d.ev i).ownBlock = some b ∨ (d.wv i).ownBlock = some b

def Side.upd (d : Side) (i : Nat) (ev wv : Value) (its : List It) : Side := ⟨d.rb, fun k => if k = i then ev else d.ev k, fun k => if k = i then wv else d.wv k, fun k => if k = i then its else d.its k⟩

/-- The block is none of theirs. -/
def Side.far (d : Side) (n b : Nat) : Prop := ∀ j, j < n → ¬ d.foot j b

structure NetM (W : World) (n : Nat) (S : Nat → Sr) (d : Side) : Prop where
  rep : ∀ i, i < n → RepQ W (d.rb i) n i 0 (S i).log (S i).now (d.its i) (S i).owed (d.ev i) (d.wv i)
  perm : ∀ i, i < n → (d.its i).Perm (S i).its
  apart : ∀ i j, i < n → j < n → i ≠ j → ∀ b, d.foot i b → ¬ d.foot j b

/-- A step: what is none of theirs stays as it was, and none of theirs. -/
structure StepM (n : Nat) (W : World) (d : Side) (W' : World) (d' : Side) : Prop where
  os : W'.os = W.os
  tape : W'.tape = W.tape
  output : W'.output = W.output
  size : W.heap.size ≤ W'.heap.size
  rb : ∀ i, d'.rb i = d.rb i
  block : ∀ b, b < W.heap.size → d.far n b → W'.heap[b]? = W.heap[b]?
  far : ∀ b, b < W.heap.size → d.far n b → d'.far n b

section
variable {W W' W'' : World} {n : Nat} {S : Nat → Sr} {d d' d'' : Side} {i : Nat}

theorem StepM.below (hb : Below W.heap.size W W') (d : Side) : StepM n W d W' d := ⟨hb.os, hb.tape, hb.output, hb.size, fun _ => rfl, fun b h _ => hb.block b h, fun _ _ h => h⟩

theorem NetM.lt (h : NetM W n S d) (hi : i < n) {b : Nat} (hf : d.foot i b) : b < W.heap.size := by
  rcases hf with rfl | hf | hf
  · exact (h.rep i hi).lt
  · exact ((h.rep i hi).erow.lt b hf).2
  · exact ((h.rep i hi).wrow.lt b hf).2

theorem NetM.keep (h : NetM W n S d) {X : List (Option Nat)} (hu : Upd X W W') (hX : ∀ i, i < n → ∀ b, d.foot i b → some b ∉ X) : NetM W' n S d :=
  ⟨fun i hi => (h.rep i hi).keep hu (hX i hi _ (.inl rfl)) (fun b hb => hX i hi b (.inr (.inl hb))) fun b hb => hX i hi b (.inr (.inr hb)), h.perm, h.apart⟩

theorem NetM.below (h : NetM W n S d) (hb : Below W.heap.size W W') : NetM W' n S d := h.keep (Upd.of_below (S := []) hb) (by simp)

theorem NetM.step (h : NetM W n S d) (hi : i < n) {s' : Sr} {its' : List It} {ev' wv' : Value} (hu : Upd [some (d.rb i), (d.ev i).ownBlock, (d.wv i).ownBlock] W W') (hr : RepQ W' (d.rb i) n i 0 s'.log s'.now its' s'.owed ev' wv') (hp : its'.Perm s'.its)
    (he : ∀ b, ev'.ownBlock = some b → (d.ev i).ownBlock = some b ∨ W.heap.size ≤ b) (hw : ∀ b, wv'.ownBlock = some b → (d.wv i).ownBlock = some b ∨ W.heap.size ≤ b) : NetM W' n (updS S i s') (d.upd i ev' wv' its') ∧ StepM n W d W' (d.upd i ev' wv' its') := by
  have hmem : ∀ b, some b ∈ [some (d.rb i), (d.ev i).ownBlock, (d.wv i).ownBlock] ↔ d.foot i b := fun b => by
    simp only [List.mem_cons, List.not_mem_nil, or_false, Option.some.injEq, Side.foot]
    exact ⟨fun h => h.imp id (Or.imp Eq.symm Eq.symm), fun h => h.imp id (Or.imp Eq.symm Eq.symm)⟩
  have hfo : ∀ j, j ≠ i → ∀ b, (d.upd i ev' wv' its').foot j b ↔ d.foot j b := fun j hj b => by simp [Side.foot, Side.upd, hj]
  have hfi : ∀ b, (d.upd i ev' wv' its').foot i b → d.foot i b ∨ W.heap.size ≤ b := fun b hf => by
    simp only [Side.foot, Side.upd, if_pos] at hf
    rcases hf with hf | hf | hf
    · exact .inl (.inl hf)
    · exact (he b hf).imp (fun h => .inr (.inl h)) id
    · exact (hw b hf).imp (fun h => .inr (.inr h)) id
  refine ⟨⟨fun j hj => ?_, fun j hj => ?_, fun j k hj hk hjk b hf hf' => ?_⟩, hu.os, hu.tape, hu.output, hu.size, fun _ => rfl, fun b hb hf => hu.block b hb fun hm => hf i hi ((hmem b).1 hm), fun b hb hf j hj hf' => ?_⟩
  · by_cases e : j = i
    · subst e
      rw [updS_same]
      simp only [Side.upd, if_pos]
      exact hr
    · rw [updS_other _ _ e]
      simp only [Side.upd, if_neg e]
      exact (h.rep j hj).keep hu (fun hm => h.apart j i hj hi e _ (.inl rfl) ((hmem _).1 hm)) (fun b hb hm => h.apart j i hj hi e b (.inr (.inl hb)) ((hmem _).1 hm)) fun b hb hm => h.apart j i hj hi e b (.inr (.inr hb)) ((hmem _).1 hm)
  · by_cases e : j = i
    · subst e
      rw [updS_same]
      simp only [Side.upd, if_pos]
      exact hp
    · rw [updS_other _ _ e]
      simp only [Side.upd, if_neg e]
      exact h.perm j hj
  · by_cases e : j = i
    · subst e
      have hf' := (hfo k (Ne.symm hjk) b).1 hf'
      rcases hfi b hf with hf | hf
      · exact h.apart j k hj hk hjk b hf hf'
      · have := h.lt hk hf'; omega
    · have hg := (hfo j e b).1 hf
      by_cases e2 : k = i
      · subst e2
        rcases hfi b hf' with hf' | hf'
        · exact h.apart j k hj hk hjk b hg hf'
        · have := h.lt hj hg; omega
      · exact h.apart j k hj hk hjk b hg ((hfo k e2 b).1 hf')
  · by_cases e : j = i
    · subst e
      rcases hfi b hf' with h1 | h1
      · exact hf j hj h1
      · omega
    · exact hf j hj ((hfo j e b).1 hf')

end

end Go.Proofs.YtckmppkdpnhodaaGreatDoor

namespace Go.Proofs.YtckmppkdpnhodaaGreatDoor
set_option linter.unusedVariables false
set_option linter.unusedSimpArgs false
open Go.Shelf Go.RowKit Go.Lib Go.Sort Go.Proofs

def eOr (o : Option En) (f : En → Nat) : Nat := match o with | some x => f x | none => 0
def wOr (o : Option En) : ByteArray := match o with | some x => x.c.word | none => ByteArray.empty

/-- An entry's ten cells. -/
def encE (o : Option En) : List Value :=
  [.int .i64 ((eOr o fun x => x.org : Nat) : Int), .int .i64 ((eOr o fun x => x.seq : Nat) : Int), .int .i64 ((eOr o fun x => x.ah.a : Nat) : Int), .int .i64 ((eOr o fun x => x.ah.b : Nat) : Int), .int .i64 ((eOr o fun x => x.ah.c : Nat) : Int), .int .i64 ((eOr o fun x => x.ah.d : Nat) : Int), .int .i64 ((eOr o fun x => x.ah.e : Nat) : Int), .int .i64 ((eOr o fun x => x.c.k.num : Nat) : Int), .string (wOr o), .int .i64 ((eOr o fun x => x.c.count : Nat) : Int)]

def cfE (x y : Option En) : Int := Lib.compareInt ((eOr x fun x => x.seq : Nat) : Int) ((eOr y fun x => x.seq : Nat) : Int)

theorem ltE (x y : Option En) : ltOf cfE x y = decide (((eOr x fun x => x.seq : Nat) : Int) < ((eOr y fun x => x.seq : Nat) : Int)) := by
  unfold ltOf cfE Lib.compareInt
  generalize ((eOr x fun x => x.seq : Nat) : Int) = a
  generalize ((eOr y fun x => x.seq : Nat) : Int) = b
  by_cases h1 : a < b
  · simp [h1]
  · by_cases h2 : b < a <;> simp [h1, h2]

theorem swoE : SWO (ltOf cfE) where
  irrefl x := by rw [ltE]; simp
  trans x y z h1 h2 := by rw [ltE] at *; simp at *; omega
  ntrans x y z h1 h2 := by rw [ltE] at *; simp at *; omega

set_option maxHeartbeats 1000000 in
theorem closureE (x y : Option En) (W : World) : Calls Tryz.prog 140 #[.agg (encE x).toArray, .agg (encE y).toArray] W fun e w' => e = .returned (.int .i64 (cfE x y)) ∧ ∃ q os', w' = grow (W.drewN q) os' := by
  have hcon := fun W' => AnyG.cmp_Compare_int Tryz.cmpInt ((eOr x fun x => x.seq : Nat) : Int) ((eOr y fun x => x.seq : Nat) : Int) W'
  change ∀ W', Calls Tryz.prog 141 _ _ _ at hcon
  unfold cfE
  generalize Lib.compareInt ((eOr x fun x => x.seq : Nat) : Int) ((eOr y fun x => x.seq : Nat) : Int) = r at hcon ⊢
  unfold encE
  generalize eOr x = ex at *
  generalize eOr y = ey at *
  generalize wOr x = wx at *
  generalize wOr y = wy at *
  go_enter Tryz.func140, Tryz.ntmps140
  go_wp2_with (go_at_call 141; refine (hcon _).mono ?_; rintro e w' ⟨rfl, rfl⟩)
  go_ret
  exact ⟨rfl, 0, _, by rw [alloc_eq_grow, alloc_eq_grow, grow_grow]; rfl⟩

theorem cmpLaysE (blk off size : Nat) (w : World) : CmpLays Tryz.prog 140 #[] encE 10 cfE blk off size w :=
  fun _ _ _ _ x y => closureE x y _

theorem lenE (n : Nat) (W : World) (h : n ≤ 12) : Calls Tryz.prog 161 #[.int .u64 n] W fun e w' => (∃ l : Int, e = .returned (.int .i64 l)) ∧ w' = W :=
  (Any.bits_Len Tryz.bitsLen2 n W (by omega) (by omega)).mono fun _ _ ⟨he, hw⟩ => ⟨⟨_, he⟩, hw⟩

theorem flat_en (es : List En) {t : Nat} (ht : t < es.length * 10) : (enRow es)[t]? = some ((flatK encE 10 (es.map some).toArray)[t]!) := by
  have hd : t / 10 < es.length := by omega
  have hm : t % 10 < 10 := Nat.mod_lt _ (by omega)
  have h1 := enRow_get es hd hm
  rw [Nat.div_add_mod' t 10] at h1
  rw [h1, get_flatK _ _ _ _ (by simpa using ht)]
  have h2 : (es.map some).toArray[t / 10]! = some es[t / 10] := by
    rw [getElem!_pos _ _ (by simpa using hd)]
    simp
  rw [h2]
  have h3 : encE (some es[t / 10]) = es[t / 10].cells := rfl
  rw [h3, getElem!_pos _ _ (by rw [En.cells_length]; exact hm), List.getElem?_eq_getElem (by rw [En.cells_length]; exact hm)]

theorem heap_grow_lt {w : World} {os : Array Obj} {k : Nat} (h : k < w.heap.size) : (grow w os).heap[k]? = w.heap[k]? := by
  unfold grow
  exact Array.getElem?_append_left h

theorem heap_putRow {w : World} {g : Nat} {cur : Array Value} {T : TypeId} {fr : Nat × Nat} (h : w.heap[g]? = some (.cells cur T fr)) (F : Array Value) : (putRow id w g 0 F).heap[g]? = some (.cells (putCells id 0 F cur) T fr) := by
  unfold putRow mapBlock
  simp [Array.getElem?_modify, h, onCells]

theorem heap_putRow_ne {w : World} {g k : Nat} (hk : k ≠ g) (F : Array Value) : (putRow id w g 0 F).heap[k]? = w.heap[k]? := by
  unfold putRow mapBlock
  simp [Array.getElem?_modify, Ne.symm hk]

set_option maxHeartbeats 1000000 in
theorem sort_row (B g cap : Nat) (es : List En) (hl : es.length ≤ 12) (w : World) (ho : w.ownsRow B 122 10 (.slice (some ⟨g, 0, none⟩) es.length cap) es.length (enRow es)) :
    Calls Tryz.prog 139 #[.slice (some ⟨g, 0, none⟩) es.length cap, .func (.func 140) #[] #[]] w fun e w' => e = .returned (.tuple #[]) ∧ ∃ es', es'.Perm es ∧ w'.ownsRow B 122 10 (.slice (some ⟨g, 0, none⟩) es.length cap) es.length (enRow es') ∧ Upd [some g] w w' := by
  rcases ho.2 with ⟨h1, -⟩ | ⟨g', cap', cur, h1, hb, hg, hle, hm, hs, ht⟩
  · cases h1
  cases h1
  have hH : HoldsK encE 10 w g 0 (es.map some).toArray := fun j hj => by
    have hj' : j < es.length * 10 := by simpa using hj
    refine ⟨?_, frozen_of_heap hg _⟩
    rw [cell_of_heap hg, Nat.zero_add]
    have h2 : cur.toList[j]? = (enRow es)[j]? := by rw [← ht, List.getElem?_take_of_lt hj']
    rw [flat_en es hj', Array.getElem?_toList] at h2
    exact h2
  have hsz : (es.map some).toArray.size = es.length := by simp
  have hgl := (Array.getElem?_eq_some_iff.1 hg).1
  have eg : ∀ args w, (callFunc 140 args).run Tryz.prog w = .ok (.enter 140 args) w := enters_of Tryz.func140 (by kernel_rfl) rfl
  have hcon := AnyQ.slices_SortFunc_small_sorted Tryz.sortEn 10 Tryz.isAgg122 Tryz.sizeOf122 encE (fun _ => rfl) (fun x v hv => by
    simp only [encE, List.mem_cons, List.not_mem_nil, or_false] at hv
    rcases hv with rfl | rfl | rfl | rfl | rfl | rfl | rfl | rfl | rfl | rfl <;> rfl) cfE 140 #[] swoE g 0 cap (es.map some).toArray w eg (cmpLaysE g 0 _ w) hH hgl (by rw [hsz]; exact hl) lenE
  rw [hsz] at hcon
  refine Calls.mono hcon ?_
  rintro e w' ⟨rfl, d', n, os, hP, -, rfl⟩
  refine ⟨rfl, ?_⟩
  obtain ⟨hps, -, hpp⟩ := hP
  rw [hsz] at hps
  have e1 : (d'.extract 0 es.length).toList = d'.toList := by rw [← hps]; simp
  have e2 : ((es.map some).toArray.extract 0 es.length).toList = es.map some := by
    have : ((es.map some).toArray.extract 0 (es.map some).toArray.size).toList = es.map some := by rw [Array.extract_size]
    rwa [hsz] at this
  rw [e1, e2] at hpp
  obtain ⟨es', he'⟩ : ∃ es' : List En, d'.toList = es'.map some := by
    refine ⟨d'.toList.filterMap id, ?_⟩
    have hall : ∀ o ∈ d'.toList, ∃ x, o = some x := fun o ho => by
      have := hpp.mem_iff.1 ho
      rw [List.mem_map] at this
      obtain ⟨x, -, rfl⟩ := this
      exact ⟨x, rfl⟩
    generalize d'.toList = l at hall
    induction l with
    | nil => rfl
    | cons o l ih =>
      obtain ⟨x, rfl⟩ := hall o (by simp)
      simp
      exact ih fun o ho => hall o (by simp [ho])
  have hperm : es'.Perm es := by
    rw [he'] at hpp
    have := hpp.filterMap id
    rw [List.filterMap_map, List.filterMap_map] at this
    simpa using this
  have hlen := hperm.length_eq
  have hd' : d' = (es'.map some).toArray := by rw [← he']
  subst hd'
  refine ⟨es', hperm, ⟨by rw [enRow_length, hlen], .inr ⟨g, cap, putCells id 0 (flatK encE 10 (es'.map some).toArray) cur, rfl, hb, ?_, hle, hm, ?_, ?_⟩⟩, ?_⟩
  · unfold sortWorldK putRowK
    rw [heap_grow_lt]
    · exact heap_putRow (show (Sort.ahead w n).heap[g]? = _ from hg) _
    · have := (Array.getElem?_eq_some_iff.1 (heap_putRow (show (Sort.ahead w n).heap[g]? = _ from hg) (flatK encE 10 (es'.map some).toArray))).1
      exact this
  · unfold putCells; rw [Array.size_mapIdx]; exact hs
  · apply List.ext_getElem?
    intro t
    by_cases htt : t < es.length * 10
    · rw [List.getElem?_take_of_lt htt, Array.getElem?_toList, flat_en es' (by rw [hlen]; exact htt)]
      unfold putCells
      rw [Array.getElem?_mapIdx]
      have hc : t < cur.size := by have : es.length * 10 ≤ cap * 10 := Nat.mul_le_mul_right _ hle; omega
      rw [Array.getElem?_eq_getElem hc]
      simp only [Option.map_some, Nat.zero_le, Nat.zero_add, size_flatK, List.size_toArray, List.length_map, true_and, Nat.sub_zero, id]
      rw [if_pos (by rw [hlen]; exact htt)]
    · rw [List.getElem?_take_eq_none (by omega), List.getElem?_eq_none (by rw [enRow_length, hlen]; omega)]
  · have hp : (putRow id (Sort.ahead w n) g 0 (flatK encE 10 (es'.map some).toArray)).heap.size = w.heap.size := by unfold putRow mapBlock; simp [Sort.ahead]
    unfold sortWorldK putRowK
    refine ⟨rfl, rfl, rfl, ?_, fun k hk hne => ?_⟩
    · have : (grow (putRow id (Sort.ahead w n) g 0 (flatK encE 10 (es'.map some).toArray)) os).heap.size = w.heap.size + os.size := by unfold grow; simp [hp]
      omega
    · rw [heap_grow_lt (by rw [hp]; exact hk), heap_putRow_ne (by simpa using hne)]
      rfl

set_option maxRecDepth 100000 in
set_option maxHeartbeats 2000000 in
theorem insertion_nil (fv : Value) (w : World) : Calls Tryz.prog 188 #[.slice none 0 0, .int .i64 0, .int .i64 0, fv] w fun e w' => e = .returned (.tuple #[]) ∧ w' = w := by
  go_enter Tryz.func188, Tryz.ntmps188
  go_wp2
  refine wp_loop_rounds 1 ?_
  rw [rounds_succ]
  go_wp2
  go_end0
  exact ⟨rfl, rfl⟩

set_option maxRecDepth 100000 in
set_option maxHeartbeats 2000000 in
theorem pdq_nil (l : Int) (fv : Value) (w : World) : Calls Tryz.prog 165 #[.slice none 0 0, .int .i64 0, .int .i64 0, .int .i64 l, fv] w fun e w' => e = .returned (.tuple #[]) ∧ w' = w := by
  have HX : Hid (Calls Tryz.prog 188 #[.slice none 0 0, .int .i64 0, .int .i64 0, fv] w fun e w' => e = .returned (.tuple #[]) ∧ w' = w) := insertion_nil fv w
  go_enter Tryz.func165, Tryz.ntmps165
  go_wp2
  refine wp_loop_rounds 1 ?_
  rw [rounds_succ]
  go_wp2_with (go_at_call 188; refine HX.out.mono ?_; rintro e w' ⟨rfl, rfl⟩)
  (try simp only [Exit.inBlock, Exit.then]); refine bodyPost_ret (results_none rfl _ _ _) rfl ?_
  exact ⟨rfl, rfl⟩

set_option maxRecDepth 100000 in
set_option maxHeartbeats 2000000 in
theorem sort_nil (fv : Value) (w : World) : Calls Tryz.prog 139 #[.slice none 0 0, fv] w fun e w' => e = .returned (.tuple #[]) ∧ w' = w := by
  have HX : Hid (∀ l, Calls Tryz.prog 165 #[.slice none 0 0, .int .i64 0, .int .i64 0, .int .i64 l, fv] w fun e w' => e = .returned (.tuple #[]) ∧ w' = w) := fun l => pdq_nil l fv w
  have HL : Hid (Calls Tryz.prog 161 #[.int .u64 0] w fun e w' => (∃ l : Int, e = .returned (.int .i64 l)) ∧ w' = w) := lenE 0 w (by omega)
  go_enter Tryz.func139, Tryz.ntmps139
  go_wp2_with (first
    | (go_at_call 161; refine HL.out.mono ?_; rintro e w' ⟨⟨l, rfl⟩, rfl⟩)
    | (go_at_call 165; refine (HX.out _).mono ?_; rintro e w' ⟨rfl, rfl⟩))
  go_end0
  exact ⟨rfl, rfl⟩

/-- Whatever list of a few entries is sorted: they are there still. -/
theorem sortG (B : Nat) (v : Value) (es : List En) (hl : es.length ≤ 12) (w : World) (ho : w.ownsRow B 122 10 v es.length (enRow es)) :
    Calls Tryz.prog 139 #[v, .func (.func 140) #[] #[]] w fun e w' => e = .returned (.tuple #[]) ∧ ∃ es', es'.Perm es ∧ w'.ownsRow B 122 10 v es.length (enRow es') ∧ Upd [v.ownBlock] w w' := by
  rcases id ho.2 with ⟨h1, h0⟩ | ⟨g, cap, cur, h1, -⟩
  · subst h1
    refine (sort_nil _ w).mono ?_
    rintro e w' ⟨rfl, rfl⟩
    exact ⟨rfl, es, List.Perm.refl _, ho, Upd.refl _ _⟩
  · subst h1
    exact sort_row B g cap es hl w ho

end Go.Proofs.YtckmppkdpnhodaaGreatDoor
