/-
  All that was done in a network; where all know all, each log holds just that. Wins, purely: the carts.
-/
import Derived.Test.YtckmppkdpnhodaaGreatDoorT42
namespace Go.Proofs.YtckmppkdpnhodaaGreatDoor
set_option linter.unusedVariables false
set_option linter.unusedSimpArgs false
open Go.RowKit Go.Proofs

theorem flat_one {n i : Nat} (hi : i < n) {x : En} {f g : Nat → List En} (hg : ∀ j, j ≠ i → g j = f j) (hx : (g i).Perm (x :: f i)) : ((List.range n).flatMap g).Perm (x :: (List.range n).flatMap f) := by
  have key : ∀ m, ((List.range m).flatMap g).Perm (if i < m then x :: (List.range m).flatMap f else (List.range m).flatMap f) := fun m => by
    induction m with
    | zero => simp
    | succ m ih =>
      rw [List.range_succ, List.flatMap_append, List.flatMap_append]
      simp only [List.flatMap_cons, List.flatMap_nil, List.append_nil]
      by_cases h1 : i < m
      · rw [if_pos h1] at ih
        rw [if_pos (by omega), hg m (by omega)]
        exact ih.append_right _
      · rw [if_neg h1] at ih
        by_cases h2 : i = m
        · subst h2
          rw [if_pos (by omega)]
          exact (ih.append hx).trans List.perm_middle
        · rw [if_neg (by omega), hg m (by omega)]
          exact ih.append_right _
  have := key n
  rwa [if_pos hi] at this

/-- What all replicas have done. -/
def unionS (n : Nat) (S : Nat → Sr) : List En := (List.range n).flatMap fun i => ownL i (S i).log

theorem unionS_do {n i : Nat} (hi : i < n) {S : Nat → Sr} {x : En} (hx : x.org = i) : (unionS n (updS S i (doS n i (S i) x))).Perm (x :: unionS n S) := by
  refine flat_one hi (fun j hj => by rw [updS_other _ _ hj]) ?_
  rw [updS_same]
  show (ownL i ((S i).log ++ [x])).Perm _
  rw [ownL_snoc, if_pos hx]
  exact List.perm_append_comm

theorem unionS_congr {n : Nat} {S S' : Nat → Sr} (h : ∀ i, i < n → ownL i (S' i).log = ownL i (S i).log) : unionS n S' = unionS n S := by
  unfold unionS
  induction n with
  | zero => rfl
  | succ n ih =>
    rw [List.range_succ, List.flatMap_append, List.flatMap_append, ih fun i hi => h i (by omega)]
    simp only [List.flatMap_cons, List.flatMap_nil, List.append_nil]
    rw [h n (by omega)]

theorem own_parts {n : Nat} : ∀ {log : List En}, (∀ x ∈ log, x.org < n) → log.Perm ((List.range n).flatMap fun i => ownL i log)
  | [], _ => by
    have : (List.range n).flatMap (fun i => ownL i []) = [] := by simp [ownL]
    rw [this]
  | x :: l, h => by
    refine ((own_parts fun y hy => h y (List.mem_cons_of_mem _ hy)).cons x).trans (List.Perm.symm ?_)
    refine flat_one (h x (by simp)) (fun j hj => ?_) ?_
    · simp [ownL, Ne.symm hj]
    · simp [ownL]

theorem flat_perm {n : Nat} {f g : Nat → List En} (h : ∀ i, i < n → (f i).Perm (g i)) : ((List.range n).flatMap f).Perm ((List.range n).flatMap g) := by
  induction n with
  | zero => simp
  | succ n ih =>
    rw [List.range_succ, List.flatMap_append, List.flatMap_append]
    simp only [List.flatMap_cons, List.flatMap_nil, List.append_nil]
    exact (ih fun i hi => h i (by omega)).append (h n (by omega))

/-- Where all know all, a log holds what was done. -/
theorem AllKnow.union {n : Nat} {S : Nat → Sr} (h : AllKnow n S) (hS : NetOk n S) {k : Nat} (hk : k < n) : (S k).log.Perm (unionS n S) :=
  (own_parts (hS.one k hk).org).trans (flat_perm fun _ hi => (h.perm hS hk hi).filter _)

theorem cntL_perm {a b : List En} (h : a.Perm b) (o : Nat) : cntL a o = cntL b o := h.countP_eq _

theorem openI_le (its : List It) : openI its ≤ its.length := by
  have h : ∀ t, cntI its t ≤ its.length := fun t => List.countP_le_length
  have := h 0; have := h 1; have := h 2; have := h 3; have := h 4
  unfold openI
  omega

/-- The network as it stands: what was done, the clock. -/
structure Sit (n : Nat) (S : Nat → Sr) (L : List En) (now : Nat) : Prop where
  un : (unionS n S).Perm L
  tot : totalS n S = L.length
  now : ∀ i, i < n → (S i).now = now

theorem Sit.empty (n : Nat) : Sit n (fun _ => Sr.empty) [] 0 := by
  refine ⟨?_, ?_, fun _ _ => rfl⟩
  · have : unionS n (fun _ => Sr.empty) = [] := by simp [unionS, ownL, Sr.empty]
    rw [this]
  · have : ∀ m, totalS m (fun _ => Sr.empty) = 0 := fun m => by
      unfold totalS
      induction m with
      | zero => rfl
      | succ m ih => rw [sumTo_succ, ih]; rfl
    exact this n

theorem Sit.do {n : Nat} {S : Nat → Sr} {L : List En} {now : Nat} (h : Sit n S L now) {i : Nat} (hi : i < n) {x : En} (hx : x.org = i) : Sit n (updS S i (doS n i (S i) x)) (L ++ [x]) now := by
  refine ⟨(unionS_do hi hx).trans ((h.un.cons x).trans ?_), by rw [totalS_do hi hx, h.tot]; simp, fun j hj => ?_⟩
  · exact (List.perm_append_comm (l₁ := [x]) (l₂ := L))
  · by_cases e : j = i
    · subst e; rw [updS_same]; exact h.now j hj
    · rw [updS_other _ _ e]; exact h.now j hj

/-- .. and where all know all, and nothing waits. -/
structure Calm (n : Nat) (S : Nat → Sr) (L : List En) (now : Nat) : Prop where
  sit : Sit n S L now
  ok : NetOk n S
  all : AllKnow n S
  its : ∀ i, i < n → (S i).its = []

theorem Calm.log {n : Nat} {S : Nat → Sr} {L : List En} {now : Nat} (h : Calm n S L now) {k : Nat} (hk : k < n) : (S k).log.Perm L := (h.all.union h.ok hk).trans h.sit.un

theorem Calm.cart {n : Nat} {S : Nat → Sr} {L : List En} {now : Nat} (h : Calm n S L now) {k : Nat} (hk : k < n) : cartG (S k).log (S k).log = cartG L L := cartG_perm (h.log hk)

section
variable {w0 W : World} {n LB NB gb pb pc : Nat} {rbs : Nat → Nat} {S : Nat → Sr} {L : List En} {now : Nat}

/-- Rounds till all is calm. -/
theorem GrpR.calm (h : GrpR w0 n LB NB gb pb pc rbs S W) (hg : Glob w0) (hs : Sit n S L now) (hnow : now + 62 ≤ NB) (bw tw : Bool) :
    Calls Tryz.prog 21 #[.pointer (some ⟨gb, 0, none⟩), .int .i64 62, .bool bw, .bool tw] W fun e w' => e = .returned (.bool true) ∧ ∃ S', Calm n S' L (now + 62) ∧ GrpR w0 n LB NB gb pb pc rbs S' w' := by
  refine (h.rounds hg 62 (by omega) (fun i hi => by rw [hs.now i hi]; omega) bw tw).mono ?_
  rintro e w' ⟨he, S2, h1, h2, h3⟩
  obtain ⟨q1, q2, q3, q4, q5, -⟩ := h1.rest h.n5.2 h.ok (by omega)
  exact ⟨he, S2, ⟨⟨by rw [unionS_congr q5]; exact hs.un, by rw [q3, hs.tot], fun i hi => by rw [h3 i hi, hs.now i hi]⟩, q1, q2, q4⟩, h2⟩

theorem GrpR.alikeC (h : GrpR w0 n LB NB gb pb pc rbs S W) (hg : Glob w0) (hs : Calm n S L now) :
    Calls Tryz.prog 22 #[.pointer (some ⟨gb, 0, none⟩), .int .i64 (L.length : Int)] W fun e w' => e = .returned (.bool true) ∧ GrpR w0 n LB NB gb pb pc rbs S w' :=
  h.alike hg L.length (fun i hi => by rw [hs.all i hi, hs.sit.tot]) (cartG L L) fun _ hi => hs.cart hi

/-- A view, where the replica's log is known up to its order. -/
theorem GrpR.viewP (h : GrpR w0 n LB NB gb pb pc rbs S W) (hg : Glob w0) {i : Nat} (hi : i < n) {A : List En} (hA : (S i).log.Perm A) {t : ByteArray} (ht : TextIs (cartG A A) t) :
    Calls Tryz.prog 23 #[.pointer (some ⟨rbs i, 0, none⟩)] W fun e w' => e = .returned (.string t) ∧ GrpR w0 n LB NB gb pb pc rbs S w' :=
  h.view hg hi (by rw [cartG_perm hA]; exact ht)

/-- A command, where the replica's log is known up to its order. -/
theorem GrpR.doP (h : GrpR w0 n LB NB gb pb pc rbs S W) (hg : Glob w0) {i : Nat} (hi : i < n) (hs : Sit n S L now) {A : List En} (hA : (S i).log.Perm A) (hLB : L.length < LB) (s : ByteArray) (hz : s.size ≤ maxLen) {c : Cm} (hr : readC s = some c) (hgo : goesB (cartG A A) c = true) (ho : (S i).its.length < 8) :
    Calls Tryz.prog 20 #[.pointer (some ⟨rbs i, 0, none⟩), .string s] W fun e w' => e = .returned (.int .i64 0) ∧ ∃ x, x.c = c ∧ x.org = i ∧ x.seq = cntL A i + 1 ∧ (∀ o, x.ah.get o = cntL A o) ∧ Sit n (updS S i (doS n i (S i) x)) (L ++ [x]) now ∧ GrpR w0 n LB NB gb pb pc rbs (updS S i (doS n i (S i) x)) w' := by
  have := openI_le (S i).its
  refine (h.do hg hi (by rw [hs.tot]; exact hLB) s hz hr (by rw [cartG_perm hA]; exact hgo) (by omega)).mono ?_
  rintro e w' ⟨he, x, q1, q2, q3, q4, q5⟩
  exact ⟨he, x, q1, q2, by rw [q3, cntL_perm hA], fun o => by rw [q4, reachOf_get, cntL_perm hA], hs.do hi q2, q5⟩

/-- A command that does not go. -/
theorem GrpR.doU (h : GrpR w0 n LB NB gb pb pc rbs S W) (hg : Glob w0) {i : Nat} (hi : i < n) (hs : Sit n S L now) {A : List En} (hA : (S i).log.Perm A) (hLB : L.length < LB) (s : ByteArray) (hz : s.size ≤ maxLen) {c : Cm} (hr : readC s = some c) (hgo : goesB (cartG A A) c = false) :
    Calls Tryz.prog 20 #[.pointer (some ⟨rbs i, 0, none⟩), .string s] W fun e w' => e = .returned (.int .i64 3) ∧ GrpR w0 n LB NB gb pb pc rbs S w' := by
  obtain ⟨d, hrb, hgr, -⟩ := id h
  rw [← hrb i]
  have hgo' : goesB (cartG (S i).log (S i).log) c = false := by rw [cartG_perm hA]; exact hgo
  refine (doN hgr.net hg hi (by rw [hs.tot]; exact hLB) s hz).mono ?_
  rintro e w' (⟨q, -⟩ | ⟨c', -, -, q2, q3⟩ | ⟨c', q, q2, -⟩ | ⟨x, q1, q2, -⟩)
  · rw [hr] at q; simp at q
  · exact ⟨q2, h.below q3⟩
  · rw [hr] at q
    obtain rfl := Option.some.inj q
    rw [hgo'] at q2; simp at q2
  · rw [hr] at q1
    rw [← Option.some.inj q1, hgo'] at q2; simp at q2

end

end Go.Proofs.YtckmppkdpnhodaaGreatDoor

namespace Go.Proofs.YtckmppkdpnhodaaGreatDoor
set_option linter.unusedVariables false
set_option linter.unusedSimpArgs false
open Go.RowKit Go.Proofs

def teaL : List UInt8 := [116, 101, 97]
def halfL : List UInt8 := [104, 97, 108, 102]
def addC (a : Nat) : Cm := ⟨.closed, ⟨#[116, 101, 97]⟩, a + 1⟩
def remC : Cm := ⟨.listen, ⟨#[116, 101, 97]⟩, 0⟩
def appC : Cm := ⟨.established, ⟨#[104, 97, 108, 102]⟩, 0⟩
def revC : Cm := ⟨.finWait, ⟨#[104, 97, 108, 102]⟩, 0⟩
def dgB (a : Nat) : ByteArray := ⟨#[UInt8.ofNat (49 + a)]⟩
/-- The text of a cart that holds tea, so much of it, and the coupon. -/
def bothB (a : Nat) : ByteArray := ⟨#[105, 116, 101, 109, 32, 116, 101, 97, 32, UInt8.ofNat (49 + a), 10, 99, 111, 117, 112, 111, 110, 32, 104, 97, 108, 102, 10]⟩
def coupB : ByteArray := ⟨#[99, 111, 117, 112, 111, 110, 32, 104, 97, 108, 102, 10]⟩

/-- A log that speaks of tea and half alone. -/
def TeaL (L : List En) : Prop := ∀ x ∈ L, (∃ a, x.c = addC a) ∨ x.c = remC ∨ x.c = appC ∨ x.c = revC

theorem tea_it {L : List En} (h : TeaL L) {s : List UInt8} (hs : s ≠ teaL) : (cartG L L).it s = none := by
  rw [cartG_it, if_pos]
  have : ∀ l : List En, (∀ x ∈ l, x ∈ L) → (l.map (cntG L s)).sum = 0 := fun l => by
    induction l with
    | nil => intro _; rfl
    | cons y l ih =>
      intro hy
      rw [List.map_cons, List.sum_cons, ih fun z hz => hy z (List.mem_cons_of_mem _ hz)]
      unfold cntG
      rw [if_neg]
      rintro ⟨h1, h2, -⟩
      rcases h y (hy y (by simp)) with ⟨a, q⟩ | q | q | q
      · rw [q] at h2; exact hs h2.symm
      all_goals (rw [q] at h1; simp [remC, appC, revC] at h1)
  exact this L fun _ h => h

theorem tea_cp {L : List En} (h : TeaL L) {s : List UInt8} (hs : s ≠ halfL) : (cartG L L).cp s = false := by
  rw [cartG_cp, List.any_eq_false]
  intro x hx hc
  simp only [isG, Bool.and_eq_true, decide_eq_true_eq] at hc
  rcases h x hx with ⟨a, q⟩ | q | q | q <;> rw [q] at hc
  · simp [addC] at hc
  · simp [remC] at hc
  · exact hs hc.1.2.symm
  · simp [revC] at hc

theorem tea_no {L : List En} (h : TeaL L) (s : List UInt8) : (cartG L L).no s = false := by
  rw [cartG_no, List.any_eq_false]
  intro x hx hc
  simp only [isG, Bool.and_eq_true, decide_eq_true_eq] at hc
  rcases h x hx with ⟨a, q⟩ | q | q | q <;> rw [q] at hc
  · simp [addC] at hc
  · simp [remC] at hc
  · simp [appC] at hc
  · simp [revC] at hc

theorem tea_both {L : List En} (h : TeaL L) {a : Nat} (ha : a < 9) (h1 : (cartG L L).it teaL = some (a + 1)) (h2 : (cartG L L).cp halfL = true) : TextIs (cartG L L) (bothB a) := by
  refine ⟨[teaL], [halfL], [], ⟨List.pairwise_singleton _ _, fun x => ?_⟩, ⟨List.pairwise_singleton _ _, fun x => ?_⟩, ⟨List.Pairwise.nil, fun x => by simp [tea_no h x]⟩, ?_⟩
  · by_cases e : x = teaL
    · subst e; simp [h1]
    · simp [e, tea_it h e]
  · by_cases e : x = halfL
    · subst e; simp [h2]
    · simp [e, tea_cp h e]
  · simp only [List.flatMap_cons, List.flatMap_nil, List.append_nil, itemLineC, h1, Option.getD_some]
    rcases (show a = 0 ∨ a = 1 ∨ a = 2 ∨ a = 3 ∨ a = 4 ∨ a = 5 ∨ a = 6 ∨ a = 7 ∨ a = 8 by omega) with rfl | rfl | rfl | rfl | rfl | rfl | rfl | rfl | rfl <;> kernel_rfl

theorem tea_coup {L : List En} (h : TeaL L) (h1 : (cartG L L).it teaL = none) (h2 : (cartG L L).cp halfL = true) : TextIs (cartG L L) coupB := by
  refine ⟨[], [halfL], [], ⟨List.Pairwise.nil, fun x => ?_⟩, ⟨List.pairwise_singleton _ _, fun x => ?_⟩, ⟨List.Pairwise.nil, fun x => by simp [tea_no h x]⟩, ?_⟩
  · by_cases e : x = teaL
    · subst e; simp [h1]
    · simp [tea_it h e]
  · by_cases e : x = halfL
    · subst e; simp [h2]
    · simp [e, tea_cp h e]
  · rfl

theorem tea_none {L : List En} (h : TeaL L) (h1 : (cartG L L).it teaL = none) (h2 : (cartG L L).cp halfL = false) : TextIs (cartG L L) ⟨#[]⟩ := by
  refine ⟨[], [], [], ⟨List.Pairwise.nil, fun x => ?_⟩, ⟨List.Pairwise.nil, fun x => ?_⟩, ⟨List.Pairwise.nil, fun x => by simp [tea_no h x]⟩, rfl⟩
  · by_cases e : x = teaL
    · subst e; simp [h1]
    · simp [tea_it h e]
  · by_cases e : x = halfL
    · subst e; simp [h2]
    · simp [tea_cp h e]

/-- The first two commands. -/
structure Wn2 (a : Nat) (x1 x2 : En) : Prop where
  c1 : x1.c = addC a
  c2 : x2.c = appC
  o1 : x1.org = 0
  o2 : x2.org = 0
  s1 : x1.seq = 1
  s2 : x2.seq = 2

structure Wn3 (a : Nat) (x1 x2 x3 : En) : Prop extends Wn2 a x1 x2 where
  c3 : x3.c = remC
  o3 : x3.org = 0
  a3 : ∀ o, x3.ah.get o = cntL [x1, x2] o

structure Wn4 (a : Nat) (x1 x2 x3 x4 : En) : Prop extends Wn3 a x1 x2 x3 where
  c4 : x4.c = revC
  o4 : x4.org = 0
  a4 : ∀ o, x4.ah.get o = cntL [x1, x2, x3] o

structure Wn5 (a b : Nat) (x1 x2 x3 x4 x5 : En) : Prop extends Wn4 a x1 x2 x3 x4 where
  c5 : x5.c = addC b
  o5 : x5.org = 1
  s5 : x5.seq = 1

structure Wn6 (a b : Nat) (x1 x2 x3 x4 x5 x6 : En) : Prop extends Wn5 a b x1 x2 x3 x4 x5 where
  c6 : x6.c = appC
  o6 : x6.org = 1
  s6 : x6.seq = 2

structure Wn7 (a b : Nat) (x1 x2 x3 x4 x5 x6 x7 : En) : Prop extends Wn6 a b x1 x2 x3 x4 x5 x6 where
  c7 : x7.c = remC
  a7 : ∀ o, x7.ah.get o = cntL [x1, x2, x3, x4, x5, x6] o

section
variable {a b : Nat} {x1 x2 x3 x4 x5 x6 x7 : En}

theorem cart_it_of {L : List En} {m : Nat} (hm : 0 < m ∧ m ≤ 999) (h : (L.map (cntG L teaL)).sum = m) : (cartG L L).it teaL = some m := by
  rw [cartG_it, h, if_neg (by omega), Nat.min_eq_right hm.2]

theorem cart_it_no {L : List En} (h : (L.map (cntG L teaL)).sum = 0) : (cartG L L).it teaL = none := by rw [cartG_it, if_pos h]

theorem Wn2.cart (h : Wn2 a x1 x2) (ha : a < 9) : TeaL [x1, x2] ∧ (cartG [x1, x2] [x1, x2]).it teaL = some (a + 1) ∧ (cartG [x1, x2] [x1, x2]).cp halfL = true := by
  obtain ⟨c1, c2, o1, o2, s1, s2⟩ := h
  have t1 : stG [x1, x2] x1 = true := (stG_iff (by omega)).2 fun y hy hu => by
    simp only [List.mem_cons, List.not_mem_nil, or_false] at hy
    rcases hy with rfl | rfl <;> simp [Undo, c1, c2, addC, appC] at hu
  have t2 : stG [x1, x2] x2 = true := (stG_iff (by omega)).2 fun y hy hu => by
    simp only [List.mem_cons, List.not_mem_nil, or_false] at hy
    rcases hy with rfl | rfl <;> simp [Undo, c1, c2, addC, appC] at hu
  refine ⟨fun x hx => ?_, cart_it_of (by omega) ?_, ?_⟩
  · simp only [List.mem_cons, List.not_mem_nil, or_false] at hx
    rcases hx with rfl | rfl
    · exact .inl ⟨a, c1⟩
    · exact .inr (.inr (.inl c2))
  · simp [cntG, c1, c2, addC, appC, t1, teaL]
  · rw [cartG_cp]; simp [isG, c1, c2, addC, appC, t2, halfL]

theorem Wn3.cp (h : Wn3 a x1 x2 x3) : (cartG [x1, x2, x3] [x1, x2, x3]).cp halfL = true := by
  obtain ⟨⟨c1, c2, o1, o2, s1, s2⟩, c3, o3, a3⟩ := h
  have t2 : stG [x1, x2, x3] x2 = true := (stG_iff (by omega)).2 fun y hy hu => by
    simp only [List.mem_cons, List.not_mem_nil, or_false] at hy
    rcases hy with rfl | rfl | rfl <;> simp [Undo, c1, c2, c3, addC, appC, remC] at hu
  rw [cartG_cp]; simp [isG, c1, c2, c3, addC, appC, remC, t2, halfL]

theorem Wn4.cart (h : Wn4 a x1 x2 x3 x4) : TeaL [x1, x2, x3, x4] ∧ (cartG [x1, x2, x3, x4] [x1, x2, x3, x4]).it teaL = none ∧ (cartG [x1, x2, x3, x4] [x1, x2, x3, x4]).cp halfL = false := by
  obtain ⟨⟨⟨c1, c2, o1, o2, s1, s2⟩, c3, o3, a3⟩, c4, o4, a4⟩ := h
  have t1 : stG [x1, x2, x3, x4] x1 = false := by
    rw [Bool.eq_false_iff]
    intro hc
    have := (stG_iff (by omega)).1 hc x3 (by simp) (by simp [Undo, c1, c3, addC, remC])
    rw [a3, o1, s1] at this
    simp [cntL_cons, o1, o2, cntL] at this
  have t2 : stG [x1, x2, x3, x4] x2 = false := by
    rw [Bool.eq_false_iff]
    intro hc
    have := (stG_iff (by omega)).1 hc x4 (by simp) (by simp [Undo, c2, c4, appC, revC])
    rw [a4, o2, s2] at this
    simp [cntL_cons, o1, o2, o3, cntL] at this
  refine ⟨fun x hx => ?_, cart_it_no ?_, ?_⟩
  · simp only [List.mem_cons, List.not_mem_nil, or_false] at hx
    rcases hx with rfl | rfl | rfl | rfl
    · exact .inl ⟨a, c1⟩
    · exact .inr (.inr (.inl c2))
    · exact .inr (.inl c3)
    · exact .inr (.inr (.inr c4))
  · simp [cntG, c1, c2, c3, c4, addC, appC, remC, revC, t1]
  · rw [cartG_cp]; simp [isG, c1, c2, c3, c4, addC, appC, remC, revC, t2]

theorem Wn6.cart (h : Wn6 a b x1 x2 x3 x4 x5 x6) (hb : b < 9) : TeaL [x1, x2, x3, x4, x5, x6] ∧ (cartG [x1, x2, x3, x4, x5, x6] [x1, x2, x3, x4, x5, x6]).it teaL = some (b + 1) ∧ (cartG [x1, x2, x3, x4, x5, x6] [x1, x2, x3, x4, x5, x6]).cp halfL = true := by
  obtain ⟨⟨⟨⟨⟨c1, c2, o1, o2, s1, s2⟩, c3, o3, a3⟩, c4, o4, a4⟩, c5, o5, s5⟩, c6, o6, s6⟩ := h
  have t1 : stG [x1, x2, x3, x4, x5, x6] x1 = false := by
    rw [Bool.eq_false_iff]
    intro hc
    have := (stG_iff (by omega)).1 hc x3 (by simp) (by simp [Undo, c1, c3, addC, remC])
    rw [a3, o1, s1] at this
    simp [cntL_cons, o1, o2, cntL] at this
  have t5 : stG [x1, x2, x3, x4, x5, x6] x5 = true := (stG_iff (by omega)).2 fun y hy hu => by
    simp only [List.mem_cons, List.not_mem_nil, or_false] at hy
    rcases hy with rfl | rfl | rfl | rfl | rfl | rfl
    case inr.inr.inl => rw [a3, o5, s5]; simp [cntL_cons, o1, o2, cntL]
    all_goals simp [Undo, c1, c2, c3, c4, c5, c6, addC, appC, remC, revC] at hu
  have t6 : stG [x1, x2, x3, x4, x5, x6] x6 = true := (stG_iff (by omega)).2 fun y hy hu => by
    simp only [List.mem_cons, List.not_mem_nil, or_false] at hy
    rcases hy with rfl | rfl | rfl | rfl | rfl | rfl
    case inr.inr.inr.inl => rw [a4, o6, s6]; simp [cntL_cons, o1, o2, o3, cntL]
    all_goals simp [Undo, c1, c2, c3, c4, c5, c6, addC, appC, remC, revC] at hu
  refine ⟨fun x hx => ?_, cart_it_of (by omega) ?_, ?_⟩
  · simp only [List.mem_cons, List.not_mem_nil, or_false] at hx
    rcases hx with rfl | rfl | rfl | rfl | rfl | rfl
    · exact .inl ⟨a, c1⟩
    · exact .inr (.inr (.inl c2))
    · exact .inr (.inl c3)
    · exact .inr (.inr (.inr c4))
    · exact .inl ⟨b, c5⟩
    · exact .inr (.inr (.inl c6))
  · simp [cntG, c1, c2, c3, c4, c5, c6, addC, appC, remC, revC, t1, t5, teaL]
  · rw [cartG_cp]; simp [isG, c1, c2, c3, c4, c5, c6, addC, appC, remC, revC, t6, halfL]

theorem Wn7.cart (h : Wn7 a b x1 x2 x3 x4 x5 x6 x7) : TeaL [x1, x2, x3, x4, x5, x6, x7] ∧ (cartG [x1, x2, x3, x4, x5, x6, x7] [x1, x2, x3, x4, x5, x6, x7]).it teaL = none ∧ (cartG [x1, x2, x3, x4, x5, x6, x7] [x1, x2, x3, x4, x5, x6, x7]).cp halfL = true := by
  obtain ⟨⟨⟨⟨⟨⟨c1, c2, o1, o2, s1, s2⟩, c3, o3, a3⟩, c4, o4, a4⟩, c5, o5, s5⟩, c6, o6, s6⟩, c7, a7⟩ := h
  have t1 : stG [x1, x2, x3, x4, x5, x6, x7] x1 = false := by
    rw [Bool.eq_false_iff]
    intro hc
    have := (stG_iff (by omega)).1 hc x3 (by simp) (by simp [Undo, c1, c3, addC, remC])
    rw [a3, o1, s1] at this
    simp [cntL_cons, o1, o2, cntL] at this
  have t5 : stG [x1, x2, x3, x4, x5, x6, x7] x5 = false := by
    rw [Bool.eq_false_iff]
    intro hc
    have := (stG_iff (by omega)).1 hc x7 (by simp) (by simp [Undo, c5, c7, addC, remC])
    rw [a7, o5, s5] at this
    simp [cntL_cons, o1, o2, o3, o4, o5, o6, cntL] at this
  have t6 : stG [x1, x2, x3, x4, x5, x6, x7] x6 = true := (stG_iff (by omega)).2 fun y hy hu => by
    simp only [List.mem_cons, List.not_mem_nil, or_false] at hy
    rcases hy with rfl | rfl | rfl | rfl | rfl | rfl | rfl
    case inr.inr.inr.inl => rw [a4, o6, s6]; simp [cntL_cons, o1, o2, o3, cntL]
    all_goals simp [Undo, c1, c2, c3, c4, c5, c6, c7, addC, appC, remC, revC] at hu
  refine ⟨fun x hx => ?_, cart_it_no ?_, ?_⟩
  · simp only [List.mem_cons, List.not_mem_nil, or_false] at hx
    rcases hx with rfl | rfl | rfl | rfl | rfl | rfl | rfl
    · exact .inl ⟨a, c1⟩
    · exact .inr (.inr (.inl c2))
    · exact .inr (.inl c3)
    · exact .inr (.inr (.inr c4))
    · exact .inl ⟨b, c5⟩
    · exact .inr (.inr (.inl c6))
    · exact .inr (.inl c7)
  · simp [cntG, c1, c2, c3, c4, c5, c6, c7, addC, appC, remC, revC, t1, t5]
  · rw [cartG_cp]; simp [isG, c1, c2, c3, c4, c5, c6, c7, addC, appC, remC, revC, t6, halfL]

end

theorem rdAdd {a : Nat} (ha : a < 9) : readC (⟨#[97, 100, 100, 32, 116, 101, 97, 32]⟩ ++ dgB a) = some (addC a) := by
  rcases (show a = 0 ∨ a = 1 ∨ a = 2 ∨ a = 3 ∨ a = 4 ∨ a = 5 ∨ a = 6 ∨ a = 7 ∨ a = 8 by omega) with rfl | rfl | rfl | rfl | rfl | rfl | rfl | rfl | rfl <;> kernel_rfl
theorem rdRem : readC ⟨#[114, 101, 109, 111, 118, 101, 32, 116, 101, 97]⟩ = some remC := by kernel_rfl
theorem rdApp : readC ⟨#[97, 112, 112, 108, 121, 32, 104, 97, 108, 102]⟩ = some appC := by kernel_rfl
theorem rdRev : readC ⟨#[114, 101, 118, 111, 107, 101, 32, 104, 97, 108, 102]⟩ = some revC := by kernel_rfl

end Go.Proofs.YtckmppkdpnhodaaGreatDoor
