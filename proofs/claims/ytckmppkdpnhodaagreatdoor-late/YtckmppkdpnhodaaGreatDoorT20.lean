/-
  A round, purely: who lacks something comes to know one command more at least. Rounds, purely: all come to know all, and then nothing waits.
-/
import Derived.Test.YtckmppkdpnhodaaGreatDoorT10
namespace Go.Proofs.YtckmppkdpnhodaaGreatDoor
set_option linter.unusedVariables false
set_option linter.unusedSimpArgs false
open Go.RowKit Go.Proofs

/-- Nothing but times, the order of what waits, and what is owed, turned. -/
theorem NetOk.still {n : Nat} {S S' : Nat → Sr} (hS : NetOk n S) (hl : ∀ i, i < n → (S' i).log = (S i).log) (hw : ∀ i, i < n → ∀ j, (waitL (S' i).its j).Perm (waitL (S i).its j)) (ht : ∀ i, i < n → ∀ p ∈ (S' i).its, p.due ≤ (S' i).now + 1) (ho : ∀ i, i < n → ∀ j, (S' i).owed j = true → (S i).owed j = true) : NetOk n S' := by
  refine ⟨fun i hi => ?_, fun i hi x hx => ?_, fun i hi j hj hji => ?_⟩
  · have h := hS.one i hi
    refine ⟨by rw [hl i hi]; exact h.log, by rw [hl i hi]; exact h.org, fun p hp => ?_, fun j => ?_, fun j hj => h.owe j (ho i hi j hj)⟩
    · obtain ⟨q, hq, he, _⟩ := mem_waitL.1 ((hw i hi p.to).mem_iff.1 (mem_waitL.2 ⟨p, hp, rfl, rfl⟩))
      have := h.to q hq
      rw [he] at this
      exact ⟨this.1, this.2.1, ht i hi p hp⟩
    · rw [← waitL_length, (hw i hi j).length_eq, waitL_length]; exact h.room j
  · rw [hl i hi] at hx
    have := hS.src i hi x hx
    rwa [hl _ ((hS.one i hi).org x hx)]
  · obtain ⟨a, h1, h2⟩ := hS.wait i hi j hj hji
    rw [hl i hi, hl j hj]
    exact ⟨a, h1, (hw i hi j).trans h2⟩

/-- All letters come, one behind the other. -/
def deliver (S : Nat → Sr) (D : List Lt) : Nat → Sr := D.foldl (fun S L => updS S L.dst (takeS (S L.dst) L)) S

theorem deliver_cons (S : Nat → Sr) (L : Lt) (D : List Lt) : deliver S (L :: D) = deliver (updS S L.dst (takeS (S L.dst) L)) D := rfl

theorem take_grow (S : Nat → Sr) (L : Lt) (i : Nat) : ∃ l, (updS S L.dst (takeS (S L.dst) L) i).log = (S i).log ++ l := by
  by_cases e : i = L.dst
  · subst e; rw [updS_same]; exact learnAll_prefix _ _
  · rw [updS_other _ _ e]; exact ⟨[], by simp⟩

theorem deliver_grow (i : Nat) : ∀ (D : List Lt) (S : Nat → Sr), ∃ l, (deliver S D i).log = (S i).log ++ l
  | [], S => ⟨[], by simp [deliver]⟩
  | L :: D, S => by
    obtain ⟨l1, h1⟩ := take_grow S L i
    obtain ⟨l2, h2⟩ := deliver_grow i D (updS S L.dst (takeS (S L.dst) L))
    exact ⟨l1 ++ l2, by rw [deliver_cons, h2, h1, List.append_assoc]⟩

theorem deliver_ok {n : Nat} : ∀ {D : List Lt} {S : Nat → Sr}, NetOk n S → (∀ L ∈ D, LtOk n S L) → NetOk n (deliver S D)
  | [], _, h, _ => h
  | L :: D, S, h, hD => deliver_ok (D := D) (h.take (hD L (by simp))) fun M hM => h.lt (fun i _ => take_grow S L i) (hD M (by simp [hM]))

theorem take_own {n : Nat} {S : Nat → Sr} {L : Lt} (hL : LtOk n S L) (i : Nat) : ownL i (updS S L.dst (takeS (S L.dst) L) i).log = ownL i (S i).log := by
  by_cases e : i = L.dst
  · subst e; rw [updS_same]; exact learnAll_own fun x hx e => hL.ne (e ▸ (hL.es x hx).2)
  · rw [updS_other _ _ e]

theorem deliver_own {n : Nat} (i : Nat) : ∀ {D : List Lt} {S : Nat → Sr}, NetOk n S → (∀ L ∈ D, LtOk n S L) → ownL i (deliver S D i).log = ownL i (S i).log
  | [], _, _, _ => rfl
  | L :: D, S, h, hD => by
    rw [deliver_cons, deliver_own i (D := D) (h.take (hD L (by simp))) (fun M hM => h.lt (fun i _ => take_grow S L i) (hD M (by simp [hM]))), take_own (hD L (by simp))]

theorem cnt_grow {S S' : Nat → Sr} {i : Nat} (h : ∃ l, (S' i).log = (S i).log ++ l) (o : Nat) : cntL (S i).log o ≤ cntL (S' i).log o := by
  obtain ⟨l, hl⟩ := h
  rw [hl, cntL_append]; omega

/-- What could be learnt when a letter set out is known when all have come. -/
theorem deliver_gets {L : Lt} {x : En} (hx : x ∈ L.es) : ∀ {D : List Lt} {S : Nat → Sr}, L ∈ D → x.seq ≤ cntL (S L.dst).log x.org + 1 → (∀ o, x.ah.get o ≤ cntL (S L.dst).log o) → x.seq ≤ cntL (deliver S D L.dst).log x.org
  | [], _, h, _, _ => by simp at h
  | M :: D, S, h, h1, h2 => by
    rw [deliver_cons]
    rcases List.mem_cons.1 h with rfl | h
    · refine Nat.le_trans ?_ (cnt_grow (deliver_grow _ D _) _)
      rw [updS_same]
      exact learnAll_gets hx h1 h2
    · exact deliver_gets hx (D := D) h (Nat.le_trans h1 (Nat.succ_le_succ (cnt_grow (take_grow S M _) _))) fun o => Nat.le_trans (h2 o) (cnt_grow (take_grow S M _) o)

theorem take_owes (S : Nat → Sr) (M : Lt) (i j : Nat) (h : (S i).owed j = true) : (updS S M.dst (takeS (S M.dst) M) i).owed j = true := by
  by_cases e : i = M.dst
  · subst e
    rw [updS_same]
    unfold takeS
    dsimp only
    split
    · exact h
    · dsimp only
      split
      · rfl
      · exact h
  · rw [updS_other _ _ e]; exact h

theorem deliver_keeps_owed (i j : Nat) : ∀ (D : List Lt) (S : Nat → Sr), (S i).owed j = true → (deliver S D i).owed j = true
  | [], _, h => h
  | M :: D, S, h => deliver_keeps_owed i j D _ (take_owes S M i j h)

theorem deliver_owes {L : Lt} (hx : L.es ≠ []) : ∀ {D : List Lt} {S : Nat → Sr}, L ∈ D → (deliver S D L.dst).owed L.src = true
  | [], _, h => by simp at h
  | M :: D, S, h => by
    rw [deliver_cons]
    rcases List.mem_cons.1 h with rfl | h
    · refine deliver_keeps_owed _ _ D _ ?_
      rw [updS_same]
      simp [takeS, hx]
    · exact deliver_owes hx (D := D) h

theorem take_its (S : Nat → Sr) (M : Lt) (i : Nat) {p : It} (h : p ∈ (updS S M.dst (takeS (S M.dst) M) i).its) : p ∈ (S i).its := by
  by_cases e : i = M.dst
  · subst e; rw [updS_same] at h; exact (List.mem_filter.1 h).1
  · rwa [updS_other _ _ e] at h

theorem deliver_its (i : Nat) {p : It} : ∀ {D : List Lt} {S : Nat → Sr}, p ∈ (deliver S D i).its → p ∈ (S i).its
  | [], _, h => h
  | M :: D, S, h => take_its S M i (deliver_its i (D := D) h)

theorem deliver_clears {L : Lt} {p : It} : ∀ {D : List Lt} {S : Nat → Sr}, L ∈ D → p ∈ (deliver S D L.dst).its → p.to = L.src → L.h < p.en.seq
  | [], _, h, _, _ => by simp at h
  | M :: D, S, h, hp, ht => by
    rw [deliver_cons] at hp
    rcases List.mem_cons.1 h with rfl | h
    · have := deliver_its _ hp
      rw [updS_same] at this
      have := (List.mem_filter.1 this).2
      unfold delB at this
      simp [ht] at this
      omega
    · exact deliver_clears (D := D) h hp ht

/-- All replicas have told their letters, when all that waited was due. -/
structure ToldL (n : Nat) (S S' : Nat → Sr) (Ls : List Lt) : Prop where
  log : ∀ i, i < n → (S' i).log = (S i).log
  its : ∀ i, i < n → ∀ j, (waitL (S' i).its j).Perm (waitL (S i).its j)
  due : ∀ i, i < n → ∀ p ∈ (S' i).its, p.due ≤ (S' i).now + 1
  none : ∀ i, i < n → ∀ j, (S' i).owed j = false
  ok : ∀ L ∈ Ls, LtOk n S L ∧ L.h = cntL (S L.src).log L.dst
  all : ∀ i, i < n → ∀ p ∈ (S i).its, ∃ L ∈ Ls, L.src = i ∧ L.dst = p.to ∧ p.en ∈ L.es
  owed : ∀ i, i < n → ∀ j, (S i).owed j = true → ∃ L ∈ Ls, L.src = i ∧ L.dst = j

theorem ToldL.net {n : Nat} {S S' : Nat → Sr} {Ls : List Lt} (h : ToldL n S S' Ls) (hS : NetOk n S) : NetOk n S' := hS.still h.log h.its h.due fun i hi j hj => by rw [h.none i hi j] at hj; simp at hj

theorem ToldL.lt {n : Nat} {S S' : Nat → Sr} {Ls : List Lt} (h : ToldL n S S' Ls) (hS : NetOk n S) {L : Lt} (hL : L ∈ Ls) : LtOk n S' L := hS.lt (fun i hi => ⟨[], by rw [h.log i hi]; simp⟩) (h.ok L hL).1

def Rc.sum (r : Rc) : Nat := r.a + r.b + r.c + r.d + r.e

theorem sum_lt {x y : Rc} (h : ∀ o, x.get o ≤ y.get o) {o : Nat} (hl : x.get o < y.get o) : x.sum < y.sum := by
  have h0 := h 0
  have h1 := h 1
  have h2 := h 2
  have h3 := h 3
  have h4 := h 4
  simp [Rc.get] at h0 h1 h2 h3 h4
  unfold Rc.get at hl
  unfold Rc.sum
  repeat (split at hl; · omega)
  omega

/-- A replica that lacks a command lacks one that it could learn at once. -/
theorem NetOk.least {n : Nat} {S : Nat → Sr} (hS : NetOk n S) {j : Nat} : ∀ (m : Nat) (x : En), x.ah.sum ≤ m → x.org < n → x ∈ (S x.org).log → x.seq = cntL (S j).log x.org + 1 → ∃ y, y.org < n ∧ y ∈ (S y.org).log ∧ y.seq = cntL (S j).log y.org + 1 ∧ ∀ o, y.ah.get o ≤ cntL (S j).log o := by
  intro m
  induction m with
  | zero =>
    intro x hx ho hm hs
    refine ⟨x, ho, hm, hs, fun o => ?_⟩
    have : x.ah.get o = 0 := by
      unfold Rc.sum at hx
      unfold Rc.get
      repeat (split; · omega)
      rfl
    omega
  | succ m ih =>
    intro x hx ho hm hs
    by_cases hc : ∀ o, x.ah.get o ≤ cntL (S j).log o
    · exact ⟨x, ho, hm, hs, hc⟩
    · simp only [Classical.not_forall, Nat.not_le] at hc
      obtain ⟨o, hlt⟩ := hc
      obtain ⟨pre, post, hsp⟩ := List.append_of_mem hm
      have hL := (hS.one _ ho).log
      rw [hsp] at hL
      obtain ⟨⟨_, _, h3⟩, hpre⟩ := hL.split
      have hah := h3 rfl
      rw [hah, reachOf_get] at hlt
      obtain ⟨z, hz, hzo, hzs⟩ := hpre.the (o := o) (s := cntL (S j).log o + 1) (by omega) (by omega)
      have hzl : z ∈ (S x.org).log := by rw [hsp]; exact List.mem_append_left _ hz
      have hzn := (hS.one _ ho).org z hzl
      obtain ⟨pre2, post2, hsp2⟩ := List.append_of_mem hz
      rw [hsp2] at hpre
      obtain ⟨⟨q1, q2, _⟩, _⟩ := hpre.split
      refine ih z ?_ hzn (hS.src _ ho z hzl) (by rw [hzo]; exact hzs)
      have : z.ah.sum < x.ah.sum := by
        refine sum_lt (o := z.org) (fun o' => ?_) ?_
        · rw [hah, reachOf_get, hsp2, cntL_append]
          exact Nat.le_trans (q2 o') (Nat.le_add_right _ _)
        · rw [hah, reachOf_get, hsp2, cntL_append, cntL_cons, if_pos rfl]
          have := q2 z.org
          omega
      omega

def sumTo (n : Nat) (f : Nat → Nat) : Nat := ((List.range n).map f).sum

theorem sumTo_succ (n : Nat) (f : Nat → Nat) : sumTo (n + 1) f = sumTo n f + f n := by simp [sumTo, List.range_succ]

theorem sumTo_le {n : Nat} {f g : Nat → Nat} (h : ∀ i, i < n → f i ≤ g i) : sumTo n f ≤ sumTo n g := by
  induction n with
  | zero => exact Nat.le_refl _
  | succ n ih => rw [sumTo_succ, sumTo_succ]; have := ih fun i hi => h i (by omega); have := h n (by omega); omega

theorem sumTo_lt {n : Nat} {f g : Nat → Nat} (h : ∀ i, i < n → f i ≤ g i) {k : Nat} (hk : k < n) (hl : f k < g k) : sumTo n f < sumTo n g := by
  induction n with
  | zero => omega
  | succ n ih =>
    rw [sumTo_succ, sumTo_succ]
    have h1 := h n (by omega)
    by_cases e : k = n
    · subst e; have := sumTo_le (n := k) fun i hi => h i (by omega); omega
    · have := ih (fun i hi => h i (by omega)) (by omega); omega

theorem sumTo_eq_le {n : Nat} {f g : Nat → Nat} (h : ∀ i, i < n → f i ≤ g i) (he : sumTo n g ≤ sumTo n f) : ∀ i, i < n → f i = g i := fun i hi => by
  rcases Nat.lt_or_ge (f i) (g i) with hl | hl
  · have := sumTo_lt h hi hl; omega
  · have := h i hi; omega

theorem sumTo_add (n : Nat) (f g : Nat → Nat) : sumTo n (fun i => f i + g i) = sumTo n f + sumTo n g := by
  induction n with
  | zero => rfl
  | succ n ih => rw [sumTo_succ, sumTo_succ, sumTo_succ, ih]; omega

theorem sumTo_congr {n : Nat} {f g : Nat → Nat} (h : ∀ i, i < n → f i = g i) : sumTo n f = sumTo n g := Nat.le_antisymm (sumTo_le fun i hi => Nat.le_of_eq (h i hi)) (sumTo_le fun i hi => Nat.le_of_eq (h i hi).symm)

theorem sumTo_one (n k : Nat) (hk : k < n) : sumTo n (fun i => if k = i then 1 else 0) = 1 := by
  induction n with
  | zero => omega
  | succ n ih =>
    rw [sumTo_succ]
    by_cases e : k = n
    · subst e
      rw [if_pos rfl, sumTo_congr (g := fun _ => 0) fun i hi => if_neg (by omega)]
      have : ∀ m, sumTo m (fun _ => 0) = 0 := fun m => by induction m with
        | zero => rfl
        | succ m ih => rw [sumTo_succ, ih]
      rw [this]
    · rw [if_neg e, ih (by omega)]

theorem length_sum {n : Nat} : ∀ {log : List En}, (∀ x ∈ log, x.org < n) → log.length = sumTo n (cntL log)
  | [], _ => by
    have : ∀ m, sumTo m (cntL []) = 0 := fun m => by induction m with
      | zero => rfl
      | succ m ih => rw [sumTo_succ, ih]; rfl
    rw [this]; rfl
  | x :: l, h => by
    have ih := length_sum (log := l) fun y hy => h y (by simp [hy])
    have e : sumTo n (cntL (x :: l)) = sumTo n (fun i => (if x.org = i then 1 else 0) + cntL l i) := sumTo_congr fun i _ => cntL_cons x l i
    rw [e, sumTo_add, sumTo_one n _ (h x (by simp)), ← ih, List.length_cons]; omega

/-- How many commands were done. -/
def totalS (n : Nat) (S : Nat → Sr) : Nat := sumTo n fun i => cntL (S i).log i

theorem NetOk.cnt_le {n : Nat} {S : Nat → Sr} (hS : NetOk n S) {i j : Nat} (hi : i < n) (hj : j < n) : cntL (S j).log i ≤ cntL (S i).log i := by
  rcases Nat.eq_zero_or_pos (cntL (S j).log i) with h | h
  · omega
  · obtain ⟨x, hx, ho, hs⟩ := (hS.one j hj).log.the (o := i) (s := cntL (S j).log i) h (Nat.le_refl _)
    have := hS.src j hj x hx
    rw [ho] at this
    have := ((hS.one i hi).log.place this).2.1
    rw [ho] at this
    omega

theorem NetOk.len_le {n : Nat} {S : Nat → Sr} (hS : NetOk n S) {j : Nat} (hj : j < n) : (S j).log.length ≤ totalS n S := by
  rw [length_sum (hS.one j hj).org]
  exact sumTo_le fun i hi => hS.cnt_le hi hj

/-- A replica lacks at most eight commands of each other one. -/
theorem NetOk.lack {n : Nat} {S : Nat → Sr} (hS : NetOk n S) {j : Nat} (hj : j < n) : totalS n S ≤ (S j).log.length + 8 * n := by
  rw [length_sum (hS.one j hj).org]
  have h8 : sumTo n (fun _ => 8) = 8 * n := by
    have : ∀ m, sumTo m (fun _ => 8) = 8 * m := fun m => by induction m with
      | zero => rfl
      | succ m ih => rw [sumTo_succ, ih]; omega
    exact this n
  rw [← h8, ← sumTo_add]
  refine sumTo_le fun i hi => ?_
  by_cases e : j = i
  · subst e; omega
  · obtain ⟨a, ha, hp⟩ := hS.wait i hi j hj e
    have := hp.length_eq
    rw [waitL_length, List.length_drop, ownL_length] at this
    have := (hS.one i hi).room j
    omega

/-- A round: who lacks something comes to know one command more at least. -/
theorem ToldL.round {n : Nat} {S S' : Nat → Sr} {Ls D : List Lt} (h : ToldL n S S' Ls) (hS : NetOk n S) (hD : ∀ L ∈ D, L ∈ Ls) (hL : ∀ L ∈ Ls, L ∈ D) :
    NetOk n (deliver S' D) ∧ (∀ i, i < n → ownL i (deliver S' D i).log = ownL i (S i).log) ∧ totalS n (deliver S' D) = totalS n S ∧ ∀ j, j < n → (S j).log.length < totalS n S → (S j).log.length + 1 ≤ (deliver S' D j).log.length := by
  have hS' := h.net hS
  have hok : ∀ L ∈ D, LtOk n S' L := fun L hl => h.lt hS (hD L hl)
  have hown : ∀ i, i < n → ownL i (deliver S' D i).log = ownL i (S i).log := fun i hi => by rw [deliver_own i hS' hok, h.log i hi]
  refine ⟨deliver_ok hS' hok, hown, sumTo_congr fun i hi => by rw [← ownL_length, ← ownL_length, hown i hi], fun j hj hlt => ?_⟩
  have hex : ∃ i, i < n ∧ cntL (S j).log i < cntL (S i).log i := by
    apply Classical.byContradiction
    intro hc
    have : totalS n S ≤ (S j).log.length := by
      rw [length_sum (hS.one j hj).org]
      exact sumTo_le fun i hi => Nat.le_of_not_lt fun hl => hc ⟨i, hi, hl⟩
    omega
  obtain ⟨i, hi, hil⟩ := hex
  obtain ⟨x0, h1, h2, h3⟩ := (hS.one i hi).log.the (o := i) (s := cntL (S j).log i + 1) (by omega) (by omega)
  obtain ⟨x, ho, hm, hs, hc⟩ := hS.least (j := j) x0.ah.sum x0 (Nat.le_refl _) (by rw [h2]; exact hi) (by rw [h2]; exact h1) (by rw [h2]; exact h3)
  have hxj : j ≠ x.org := fun e => by
    have := ((hS.one _ ho).log.place hm).2.1
    rw [e] at hs
    omega
  obtain ⟨a, ha, hp⟩ := hS.wait x.org ho j hj hxj
  have hw : x ∈ waitL (S x.org).its j := by
    rw [hp.mem_iff]
    have := ((hS.one _ ho).log.place hm).2.2
    exact List.mem_of_getElem? (i := x.seq - 1 - a) (by rw [List.getElem?_drop, show a + (x.seq - 1 - a) = x.seq - 1 by omega]; exact this)
  obtain ⟨p, hpm, hpt, hpe⟩ := mem_waitL.1 hw
  obtain ⟨L, hLm, hLs, hLd, hLe⟩ := h.all x.org ho p hpm
  rw [hpe] at hLe
  rw [hpt] at hLd
  have hlog := h.log j hj
  have hget := deliver_gets hLe (D := D) (S := S') (hL L hLm) (by rw [hLd, hlog]; omega) (by rw [hLd, hlog]; exact hc)
  rw [hLd] at hget
  obtain ⟨l, hl⟩ := deliver_grow j D S'
  rw [hl, List.length_append, hlog]
  rw [hl, cntL_append, hlog] at hget
  have := cntL_le l x.org
  omega

end Go.Proofs.YtckmppkdpnhodaaGreatDoor

namespace Go.Proofs.YtckmppkdpnhodaaGreatDoor
set_option linter.unusedVariables false
set_option linter.unusedSimpArgs false
open Go.RowKit Go.Proofs

def tickS (s : Sr) : Sr := ⟨s.log, s.now + 1, s.its, s.owed⟩

/-- A round: all tick, all tell their letters, all letters come (in whatever order, how often ever). -/
def Rnd (n : Nat) (S S3 : Nat → Sr) : Prop := ∃ S2 Ls D, ToldL n (fun i => tickS (S i)) S2 Ls ∧ (∀ L ∈ D, L ∈ Ls) ∧ (∀ L ∈ Ls, L ∈ D) ∧ S3 = deliver S2 D

theorem NetOk.tick {n : Nat} {S : Nat → Sr} (hS : NetOk n S) : NetOk n (fun i => tickS (S i)) := hS.still (fun _ _ => rfl) (fun _ _ _ => List.Perm.refl _) (fun i hi p hp => Nat.le_trans ((hS.one i hi).to p hp).2.2 (Nat.le_succ _)) fun _ _ _ h => h

theorem NetOk.tick1 {n : Nat} {S : Nat → Sr} (hS : NetOk n S) (k : Nat) : NetOk n (updS S k (tickS (S k))) := by
  have e : ∀ i, updS S k (tickS (S k)) i = if i = k then tickS (S i) else S i := fun i => by
    unfold updS
    split
    · subst_vars; rfl
    · rfl
  refine hS.still (fun i hi => ?_) (fun i hi j => ?_) (fun i hi p hp => ?_) fun i hi j h => ?_
  · rw [e]; split <;> rfl
  · rw [e]; split <;> exact List.Perm.refl _
  · rw [e] at hp ⊢
    split at hp
    · rw [if_pos (by assumption)]; exact Nat.le_trans ((hS.one i hi).to p hp).2.2 (Nat.le_succ _)
    · rw [if_neg (by assumption)]; exact ((hS.one i hi).to p hp).2.2
  · rw [e] at h; split at h <;> exact h

theorem Rnd.net {n : Nat} {S S3 : Nat → Sr} (h : Rnd n S S3) (hS : NetOk n S) : NetOk n S3 ∧ (∀ i, i < n → ownL i (S3 i).log = ownL i (S i).log) ∧ totalS n S3 = totalS n S ∧ (∀ j, j < n → (S j).log.length < totalS n S → (S j).log.length + 1 ≤ (S3 j).log.length) ∧ ∀ j, j < n → ∃ l, (S3 j).log = (S j).log ++ l := by
  obtain ⟨S2, Ls, D, ht, h1, h2, rfl⟩ := h
  obtain ⟨q1, q2, q3, q4⟩ := ht.round hS.tick h1 h2
  refine ⟨q1, q2, q3, q4, fun j hj => ?_⟩
  obtain ⟨l, hl⟩ := deliver_grow j D S2
  exact ⟨l, by rw [hl, ht.log j hj]; rfl⟩

/-- All know all. -/
def AllKnow (n : Nat) (S : Nat → Sr) : Prop := ∀ j, j < n → (S j).log.length = totalS n S

theorem AllKnow.cnt {n : Nat} {S : Nat → Sr} (h : AllKnow n S) (hS : NetOk n S) {i j : Nat} (hi : i < n) (hj : j < n) : cntL (S j).log i = cntL (S i).log i := by
  have e := h j hj
  rw [length_sum (hS.one j hj).org] at e
  exact sumTo_eq_le (f := cntL (S j).log) (g := fun i => cntL (S i).log i) (fun i hi => hS.cnt_le hi hj) (Nat.le_of_eq e.symm) i hi

theorem Rnd.allKnow {n : Nat} {S S3 : Nat → Sr} (h : Rnd n S S3) (hS : NetOk n S) (ha : AllKnow n S) : AllKnow n S3 := fun j hj => by
  obtain ⟨q1, q2, q3, q4, q5⟩ := h.net hS
  obtain ⟨l, hl⟩ := q5 j hj
  have h1 := q1.len_le hj
  have h2 := ha j hj
  rw [hl, List.length_append] at *
  omega

/-- Two rounds more, and nothing waits. -/
theorem Rnd.clear {n : Nat} {S S' S'' : Nat → Sr} (h1 : Rnd n S S') (h2 : Rnd n S' S'') (hS : NetOk n S) (ha : AllKnow n S) : ∀ i, i < n → (S'' i).its = [] := fun i hi => by
  apply Classical.byContradiction
  intro hne
  obtain ⟨p, hp⟩ := List.exists_mem_of_ne_nil _ hne
  have hS' := (h1.net hS).1
  have hS'' := (h2.net hS').1
  have ha' := h1.allKnow hS ha
  have ha'' := h2.allKnow hS' ha'
  have hto := (hS''.one i hi).to p hp
  obtain ⟨T2, Ls', D', ht', d1', d2', rfl⟩ := h2
  obtain ⟨S2, Ls, D, ht, d1, d2, rfl⟩ := h1
  have hp2 := deliver_its i hp
  obtain ⟨q, hq, hqt, hqe⟩ := mem_waitL.1 ((ht'.its i hi p.to).mem_iff.1 (mem_waitL.2 ⟨p, hp2, rfl, rfl⟩))
  have hq2 := deliver_its i (show q ∈ (deliver S2 D i).its from hq)
  obtain ⟨r, hr, hrt, hre⟩ := mem_waitL.1 ((ht.its i hi q.to).mem_iff.1 (mem_waitL.2 ⟨q, hq2, rfl, rfl⟩))
  obtain ⟨L, hL, hLs, hLd, hLe⟩ := ht.all i hi r hr
  have how := deliver_owes (L := L) (fun e => by rw [e] at hLe; simp at hLe) (S := S2) (d2 L hL)
  rw [hLs, hLd, hrt, hqt] at how
  obtain ⟨M, hM, hMs, hMd⟩ := ht'.owed p.to hto.1 i how
  have hh := (ht'.ok M hM).2
  rw [hMs, hMd] at hh
  have hcl := deliver_clears (L := M) (p := p) (S := T2) (d2' M hM) (by rw [hMd]; exact hp) hMs.symm
  rw [hh] at hcl
  have hcnt : cntL (tickS (deliver S2 D p.to)).log i = cntL (tickS (deliver S2 D i)).log i := AllKnow.cnt (S := deliver S2 D) ha' hS' hi hto.1
  rw [hcnt] at hcl
  obtain ⟨a, _, hw⟩ := hS'.wait i hi p.to hto.1 hto.2.1
  have hmem : p.en ∈ (ownL i (deliver S2 D i).log).drop a := hw.mem_iff.1 (mem_waitL.2 ⟨q, hq, hqt, hqe⟩)
  have hm := mem_ownL.1 (List.mem_of_mem_drop hmem)
  have := ((hS'.one i hi).log.place hm.1).2.1
  rw [hm.2] at this
  have e : cntL (tickS (deliver S2 D i)).log i = cntL (deliver S2 D i).log i := rfl
  omega

def Rnds (n : Nat) : Nat → (Nat → Sr) → (Nat → Sr) → Prop
  | 0, S, S' => S' = S
  | r + 1, S, S' => ∃ T, Rnd n S T ∧ Rnds n r T S'

theorem Rnds.snoc {n : Nat} : ∀ {r : Nat} {S S' S'' : Nat → Sr}, Rnds n r S S' → Rnd n S' S'' → Rnds n (r + 1) S S''
  | 0, S, S', S'', h, h2 => by cases h; exact ⟨S'', h2, rfl⟩
  | r + 1, S, S', S'', ⟨T, h1, h2⟩, h3 => ⟨T, h1, Rnds.snoc h2 h3⟩

theorem Rnds.net {n : Nat} : ∀ {r : Nat} {S S3 : Nat → Sr}, Rnds n r S S3 → NetOk n S → NetOk n S3 ∧ (∀ i, i < n → ownL i (S3 i).log = ownL i (S i).log) ∧ totalS n S3 = totalS n S ∧ (∀ j, j < n → min (totalS n S) ((S j).log.length + r) ≤ (S3 j).log.length) ∧ ∀ j, j < n → ∃ l, (S3 j).log = (S j).log ++ l
  | 0, S, S3, h, hS => by
    cases h
    exact ⟨hS, fun _ _ => rfl, rfl, fun j _ => Nat.min_le_right _ _, fun j _ => ⟨[], by simp⟩⟩
  | r + 1, S, S3, ⟨T, h1, h2⟩, hS => by
    obtain ⟨a1, a2, a3, a4, a5⟩ := h1.net hS
    obtain ⟨b1, b2, b3, b4, b5⟩ := Rnds.net h2 a1
    refine ⟨b1, fun i hi => (b2 i hi).trans (a2 i hi), b3.trans a3, fun j hj => ?_, fun j hj => ?_⟩
    · have h4 := a4 j hj
      have h5 := b4 j hj
      obtain ⟨l, hl⟩ := a5 j hj
      have h6 := hS.len_le hj
      have h7 : (T j).log.length = (S j).log.length + l.length := by rw [hl, List.length_append]
      omega
    · obtain ⟨l, hl⟩ := a5 j hj
      obtain ⟨m, hm⟩ := b5 j hj
      exact ⟨l ++ m, by rw [hm, hl, List.append_assoc]⟩

/-- Rounds enough, and all know all. -/
theorem Rnds.all {n r : Nat} {S S3 : Nat → Sr} (h : Rnds n r S S3) (hS : NetOk n S) (hr : 8 * n ≤ r) : AllKnow n S3 := fun j hj => by
  obtain ⟨h1, _, h3, h4, _⟩ := h.net hS
  have := h4 j hj
  have := hS.lack hj
  have := h1.len_le hj
  omega

theorem Rnds.split {n : Nat} : ∀ {r : Nat} {k : Nat} {S S3 : Nat → Sr}, Rnds n (r + k) S S3 → ∃ T, Rnds n r S T ∧ Rnds n k T S3
  | 0, k, S, S3, h => ⟨S, rfl, by rwa [Nat.zero_add] at h⟩
  | r + 1, k, S, S3, h => by
    rw [show r + 1 + k = (r + k) + 1 by omega] at h
    obtain ⟨T, h1, h2⟩ := h
    obtain ⟨U, h3, h4⟩ := Rnds.split h2
    exact ⟨U, ⟨T, h1, h3⟩, h4⟩

/-- Behind so many rounds all know all, and nothing waits. -/
theorem Rnds.rest {n r : Nat} (hn : n ≤ 5) {S S3 : Nat → Sr} (h : Rnds n r S S3) (hS : NetOk n S) (hr : 42 ≤ r) : NetOk n S3 ∧ AllKnow n S3 ∧ totalS n S3 = totalS n S ∧ (∀ i, i < n → (S3 i).its = []) ∧ (∀ i, i < n → ownL i (S3 i).log = ownL i (S i).log) ∧ ∀ j, j < n → ∃ l, (S3 j).log = (S j).log ++ l := by
  obtain ⟨g1, g2, g3, g4, g5⟩ := h.net hS
  refine ⟨g1, h.all hS (by omega), g3, ?_, g2, g5⟩
  rw [show r = (r - 2) + 2 by omega] at h
  obtain ⟨T, h1, U, h2, V, h3, h4⟩ := h.split
  cases h4
  exact h2.clear h3 (h1.net hS).1 (h1.all hS (by omega))

def Sr.empty : Sr := ⟨[], 0, [], fun _ => false⟩

theorem NetOk.empty (n : Nat) : NetOk n (fun _ => Sr.empty) :=
  ⟨fun _ _ => ⟨trivial, by simp [Sr.empty], by simp [Sr.empty], by simp [Sr.empty, cntI], by simp [Sr.empty]⟩, by simp [Sr.empty], fun _ _ _ _ _ => ⟨0, Nat.zero_le _, by simp [Sr.empty, waitL, ownL]⟩⟩

end Go.Proofs.YtckmppkdpnhodaaGreatDoor
