/-
  Wins, purely: the carts. Wins: what each of its calls does. Wins. Wins: its card. Two groups at once. Two groups in which the same is done. An act's text.
-/
import Derived.Test.YtckmppkdpnhodaaGreatDoorT42
namespace Go.Proofs.YtckmppkdpnhodaaGreatDoor
set_option linter.unusedVariables false
set_option linter.unusedSimpArgs false
open Go.RowKit Go.Proofs

def teaL : List UInt8 := [116, 101, 97]
def halfL : List UInt8 := [104, 97, 108, 102]
def addC (a : Nat) : Cm := ⟨.closed, ⟨#[116, 101, 97]⟩, a + 1⟩
def remC : Cm := ⟨.listen, ⟨#[116, 101, 97]⟩, 0⟩
def appC : Cm := ⟨.established, ⟨#[104, 97, 108, 102]⟩, 0⟩
def revC : Cm := ⟨.finWait, ⟨#[104, 97, 108, 102]⟩, 0⟩
/-- A log that speaks of tea and half alone. -/
def TeaL (L : List En) : Prop := ∀ x ∈ L, (∃ a, x.c = addC a) ∨ x.c = remC ∨ x.c = appC ∨ x.c = revC

/-- The first two commands. -/
structure Wn2 (a : Nat) (x1 x2 : En) : Prop where
  c1 : x1.c = addC a
  c2 : x2.c = appC
  o1 : x1.org = 0
  o2 : x2.org = 0
  s1 : x1.seq = 1
  s2 : x2.seq = 2

structure Wn3 (a : Nat) (x1 x2 x3 : En) : Prop extends Wn2 a x1 x2 where
  c3 : x3.c = remC
  o3 : x3.org = 0
  a3 : ∀ o, x3.ah.get o = cntL [x1, x2] o

structure Wn4 (a : Nat) (x1 x2 x3 x4 : En) : Prop extends Wn3 a x1 x2 x3 where
  c4 : x4.c = revC
  o4 : x4.org = 0
  a4 : ∀ o, x4.ah.get o = cntL [x1, x2, x3] o

structure Wn5 (a b : Nat) (x1 x2 x3 x4 x5 : En) : Prop extends Wn4 a x1 x2 x3 x4 where
  c5 : x5.c = addC b
  o5 : x5.org = 1
  s5 : x5.seq = 1

structure Wn6 (a b : Nat) (x1 x2 x3 x4 x5 x6 : En) : Prop extends Wn5 a b x1 x2 x3 x4 x5 where
  c6 : x6.c = appC
  o6 : x6.org = 1
  s6 : x6.seq = 2

structure Wn7 (a b : Nat) (x1 x2 x3 x4 x5 x6 x7 : En) : Prop extends Wn6 a b x1 x2 x3 x4 x5 x6 where
  c7 : x7.c = remC
  a7 : ∀ o, x7.ah.get o = cntL [x1, x2, x3, x4, x5, x6] o

section
variable {a b : Nat} {x1 x2 x3 x4 x5 x6 x7 : En}

theorem cart_it_of {L : List En} {m : Nat} (hm : 0 < m ∧ m ≤ 999) (h : (L.map (cntG L teaL)).sum = m) : (cartG L L).it teaL = some m := by
  rw [cartG_it, h, if_neg (by omega), Nat.min_eq_right hm.2]

theorem cart_it_no {L : List En} (h : (L.map (cntG L teaL)).sum = 0) : (cartG L L).it teaL = none := by rw [cartG_it, if_pos h]

theorem Wn2.cart (h : Wn2 a x1 x2) (ha : a < 9) : TeaL [x1, x2] ∧ (cartG [x1, x2] [x1, x2]).it teaL = some (a + 1) ∧ (cartG [x1, x2] [x1, x2]).cp halfL = true := by
  obtain ⟨c1, c2, o1, o2, s1, s2⟩ := h
  have t1 : stG [x1, x2] x1 = true := (stG_iff (by omega)).2 fun y hy hu => by
    simp only [List.mem_cons, List.not_mem_nil, or_false] at hy
    rcases hy with rfl | rfl <;> simp [Undo, c1, c2, addC, appC] at hu
  have t2 : stG [x1, x2] x2 = true := (stG_iff (by omega)).2 fun y hy hu => by
    simp only [List.mem_cons, List.not_mem_nil, or_false] at hy
    rcases hy with rfl | rfl <;> simp [Undo, c1, c2, addC, appC] at hu
  refine ⟨fun x hx => ?_, cart_it_of (by omega) ?_, ?_⟩
  · simp only [List.mem_cons, List.not_mem_nil, or_false] at hx
    rcases hx with rfl | rfl
    · exact .inl ⟨a, c1⟩
    · exact .inr (.inr (.inl c2))
  · simp [cntG, c1, c2, addC, appC, t1, teaL]
  · rw [cartG_cp]; simp [isG, c1, c2, addC, appC, t2, halfL]

theorem Wn3.cp (h : Wn3 a x1 x2 x3) : (cartG [x1, x2, x3] [x1, x2, x3]).cp halfL = true := by
  obtain ⟨⟨c1, c2, o1, o2, s1, s2⟩, c3, o3, a3⟩ := h
  have t2 : stG [x1, x2, x3] x2 = true := (stG_iff (by omega)).2 fun y hy hu => by
    simp only [List.mem_cons, List.not_mem_nil, or_false] at hy
    rcases hy with rfl | rfl | rfl <;> simp [Undo, c1, c2, c3, addC, appC, remC] at hu
  rw [cartG_cp]; simp [isG, c1, c2, c3, addC, appC, remC, t2, halfL]

theorem Wn4.cart (h : Wn4 a x1 x2 x3 x4) : TeaL [x1, x2, x3, x4] ∧ (cartG [x1, x2, x3, x4] [x1, x2, x3, x4]).it teaL = none ∧ (cartG [x1, x2, x3, x4] [x1, x2, x3, x4]).cp halfL = false := by
  obtain ⟨⟨⟨c1, c2, o1, o2, s1, s2⟩, c3, o3, a3⟩, c4, o4, a4⟩ := h
  have t1 : stG [x1, x2, x3, x4] x1 = false := by
    rw [Bool.eq_false_iff]
    intro hc
    have := (stG_iff (by omega)).1 hc x3 (by simp) (by simp [Undo, c1, c3, addC, remC])
    rw [a3, o1, s1] at this
    simp [cntL_cons, o1, o2, cntL] at this
  have t2 : stG [x1, x2, x3, x4] x2 = false := by
    rw [Bool.eq_false_iff]
    intro hc
    have := (stG_iff (by omega)).1 hc x4 (by simp) (by simp [Undo, c2, c4, appC, revC])
    rw [a4, o2, s2] at this
    simp [cntL_cons, o1, o2, o3, cntL] at this
  refine ⟨fun x hx => ?_, cart_it_no ?_, ?_⟩
  · simp only [List.mem_cons, List.not_mem_nil, or_false] at hx
    rcases hx with rfl | rfl | rfl | rfl
    · exact .inl ⟨a, c1⟩
    · exact .inr (.inr (.inl c2))
    · exact .inr (.inl c3)
    · exact .inr (.inr (.inr c4))
  · simp [cntG, c1, c2, c3, c4, addC, appC, remC, revC, t1]
  · rw [cartG_cp]; simp [isG, c1, c2, c3, c4, addC, appC, remC, revC, t2]

theorem Wn6.cart (h : Wn6 a b x1 x2 x3 x4 x5 x6) (hb : b < 9) : TeaL [x1, x2, x3, x4, x5, x6] ∧ (cartG [x1, x2, x3, x4, x5, x6] [x1, x2, x3, x4, x5, x6]).it teaL = some (b + 1) ∧ (cartG [x1, x2, x3, x4, x5, x6] [x1, x2, x3, x4, x5, x6]).cp halfL = true := by
  obtain ⟨⟨⟨⟨⟨c1, c2, o1, o2, s1, s2⟩, c3, o3, a3⟩, c4, o4, a4⟩, c5, o5, s5⟩, c6, o6, s6⟩ := h
  have t1 : stG [x1, x2, x3, x4, x5, x6] x1 = false := by
    rw [Bool.eq_false_iff]
    intro hc
    have := (stG_iff (by omega)).1 hc x3 (by simp) (by simp [Undo, c1, c3, addC, remC])
    rw [a3, o1, s1] at this
    simp [cntL_cons, o1, o2, cntL] at this
  have t5 : stG [x1, x2, x3, x4, x5, x6] x5 = true := (stG_iff (by omega)).2 fun y hy hu => by
    simp only [List.mem_cons, List.not_mem_nil, or_false] at hy
    rcases hy with rfl | rfl | rfl | rfl | rfl | rfl
    case inr.inr.inl => rw [a3, o5, s5]; simp [cntL_cons, o1, o2, cntL]
    all_goals simp [Undo, c1, c2, c3, c4, c5, c6, addC, appC, remC, revC] at hu
  have t6 : stG [x1, x2, x3, x4, x5, x6] x6 = true := (stG_iff (by omega)).2 fun y hy hu => by
    simp only [List.mem_cons, List.not_mem_nil, or_false] at hy
    rcases hy with rfl | rfl | rfl | rfl | rfl | rfl
    case inr.inr.inr.inl => rw [a4, o6, s6]; simp [cntL_cons, o1, o2, o3, cntL]
    all_goals simp [Undo, c1, c2, c3, c4, c5, c6, addC, appC, remC, revC] at hu
  refine ⟨fun x hx => ?_, cart_it_of (by omega) ?_, ?_⟩
  · simp only [List.mem_cons, List.not_mem_nil, or_false] at hx
    rcases hx with rfl | rfl | rfl | rfl | rfl | rfl
    · exact .inl ⟨a, c1⟩
    · exact .inr (.inr (.inl c2))
    · exact .inr (.inl c3)
    · exact .inr (.inr (.inr c4))
    · exact .inl ⟨b, c5⟩
    · exact .inr (.inr (.inl c6))
  · simp [cntG, c1, c2, c3, c4, c5, c6, addC, appC, remC, revC, t1, t5, teaL]
  · rw [cartG_cp]; simp [isG, c1, c2, c3, c4, c5, c6, addC, appC, remC, revC, t6, halfL]

theorem Wn7.cart (h : Wn7 a b x1 x2 x3 x4 x5 x6 x7) : TeaL [x1, x2, x3, x4, x5, x6, x7] ∧ (cartG [x1, x2, x3, x4, x5, x6, x7] [x1, x2, x3, x4, x5, x6, x7]).it teaL = none ∧ (cartG [x1, x2, x3, x4, x5, x6, x7] [x1, x2, x3, x4, x5, x6, x7]).cp halfL = true := by
  obtain ⟨⟨⟨⟨⟨⟨c1, c2, o1, o2, s1, s2⟩, c3, o3, a3⟩, c4, o4, a4⟩, c5, o5, s5⟩, c6, o6, s6⟩, c7, a7⟩ := h
  have t1 : stG [x1, x2, x3, x4, x5, x6, x7] x1 = false := by
    rw [Bool.eq_false_iff]
    intro hc
    have := (stG_iff (by omega)).1 hc x3 (by simp) (by simp [Undo, c1, c3, addC, remC])
    rw [a3, o1, s1] at this
    simp [cntL_cons, o1, o2, cntL] at this
  have t5 : stG [x1, x2, x3, x4, x5, x6, x7] x5 = false := by
    rw [Bool.eq_false_iff]
    intro hc
    have := (stG_iff (by omega)).1 hc x7 (by simp) (by simp [Undo, c5, c7, addC, remC])
    rw [a7, o5, s5] at this
    simp [cntL_cons, o1, o2, o3, o4, o5, o6, cntL] at this
  have t6 : stG [x1, x2, x3, x4, x5, x6, x7] x6 = true := (stG_iff (by omega)).2 fun y hy hu => by
    simp only [List.mem_cons, List.not_mem_nil, or_false] at hy
    rcases hy with rfl | rfl | rfl | rfl | rfl | rfl | rfl
    case inr.inr.inr.inl => rw [a4, o6, s6]; simp [cntL_cons, o1, o2, o3, cntL]
    all_goals simp [Undo, c1, c2, c3, c4, c5, c6, c7, addC, appC, remC, revC] at hu
  refine ⟨fun x hx => ?_, cart_it_no ?_, ?_⟩
  · simp only [List.mem_cons, List.not_mem_nil, or_false] at hx
    rcases hx with rfl | rfl | rfl | rfl | rfl | rfl | rfl
    · exact .inl ⟨a, c1⟩
    · exact .inr (.inr (.inl c2))
    · exact .inr (.inl c3)
    · exact .inr (.inr (.inr c4))
    · exact .inl ⟨b, c5⟩
    · exact .inr (.inr (.inl c6))
    · exact .inr (.inl c7)
  · simp [cntG, c1, c2, c3, c4, c5, c6, c7, addC, appC, remC, revC, t1, t5]
  · rw [cartG_cp]; simp [isG, c1, c2, c3, c4, c5, c6, c7, addC, appC, remC, revC, t6, halfL]

end

end Go.Proofs.YtckmppkdpnhodaaGreatDoor

namespace Go.Proofs.YtckmppkdpnhodaaGreatDoor
set_option linter.unusedVariables false
set_option linter.unusedSimpArgs false
open Go.RowKit Go.Proofs

/-- A replica's log up to its order; at most so much waits. -/
def Loc (S : Nat → Sr) (i : Nat) (A : List En) (k : Nat) : Prop := (S i).log.Perm A ∧ (S i).its.length ≤ k

theorem Loc.do {n i : Nat} {S : Nat → Sr} {A : List En} {k : Nat} (h : Loc S i A k) (x : En) : Loc (updS S i (doS n i (S i) x)) i (A ++ [x]) (k + n) := by
  refine ⟨?_, ?_⟩
  · rw [updS_same]; exact h.1.append_right _
  · rw [updS_same]
    show ((S i).its ++ newIts i (S i).now x n).length ≤ _
    have := newIts_len i (S i).now x n
    have := h.2
    rw [List.length_append]; omega

theorem Calm.loc {n : Nat} {S : Nat → Sr} {L : List En} {now : Nat} (h : Calm n S L now) {i : Nat} (hi : i < n) : Loc S i L 0 := ⟨h.log hi, by rw [h.its i hi]; exact Nat.le_refl _⟩

section
variable {W : World} {n gb pb pc : Nat} {rbs : Nat → Nat} {a b : Nat}

def Wi5 (W : World) (n gb pb pc : Nat) (rbs : Nat → Nat) (a : Nat) (w : World) : Prop := ∃ S x1 x2 x3 x4, GrpR W n 10 1000 gb pb pc rbs S w ∧ Sit n S [x1, x2, x3, x4] 62 ∧ Loc S 0 [x1, x2, x3, x4] 10 ∧ Loc S 1 [x1, x2] 0 ∧ Wn4 a x1 x2 x3 x4
end

end Go.Proofs.YtckmppkdpnhodaaGreatDoor

namespace Go.Proofs.YtckmppkdpnhodaaGreatDoor
set_option linter.unusedVariables false
set_option linter.unusedSimpArgs false
open Go.RowKit Go.Proofs

attribute [local go_sem ↓] Go.wp_at_zero Go.wp_at_succ

theorem Wi5.drew {W w : World} {n gb pb pc : Nat} {rbs : Nat → Nat} {a : Nat} (h : Wi5 W n gb pb pc rbs a w) : Wi5 W n gb pb pc rbs a w.drew := by
  obtain ⟨S, x1, x2, x3, x4, hG, h2⟩ := h
  exact ⟨S, x1, x2, x3, x4, hG.below (Below.refl _ w).drew, h2⟩

end Go.Proofs.YtckmppkdpnhodaaGreatDoor

namespace Go.Proofs.YtckmppkdpnhodaaGreatDoor
set_option linter.unusedVariables false
set_option linter.unusedSimpArgs false
open Go.ChangeShapes Go.WideShapes Go.ChangeAt Go.RowKit Go.Deep

end Go.Proofs.YtckmppkdpnhodaaGreatDoor

namespace Go.Proofs.YtckmppkdpnhodaaGreatDoor
set_option linter.unusedVariables false
set_option linter.unusedSimpArgs false
open Go.RowKit Go.Proofs

/-- All blocks of a group's replicas. -/
def Side.feet (d : Side) (n : Nat) : List (Option Nat) := (List.range n).flatMap fun i => [some (d.rb i), (d.ev i).ownBlock, (d.wv i).ownBlock]

theorem Side.mem_feet {d : Side} {n b : Nat} : some b ∈ d.feet n ↔ ∃ i, i < n ∧ d.foot i b := by
  simp only [Side.feet, List.mem_flatMap, List.mem_range, List.mem_cons, List.not_mem_nil, or_false, Option.some.injEq, Side.foot]
  constructor
  · rintro ⟨i, hi, h⟩
    exact ⟨i, hi, h.imp id (Or.imp Eq.symm Eq.symm)⟩
  · rintro ⟨i, hi, h⟩
    exact ⟨i, hi, h.imp id (Or.imp Eq.symm Eq.symm)⟩

theorem Side.far_iff {d : Side} {n b : Nat} : d.far n b ↔ some b ∉ d.feet n := by
  rw [Side.mem_feet]
  constructor
  · rintro h ⟨i, hi, hf⟩; exact h i hi hf
  · intro h i hi hf; exact h ⟨i, hi, hf⟩

theorem StepM.upd {n : Nat} {W W' : World} {d d' : Side} (h : StepM n W d W' d') : Upd (d.feet n) W W' :=
  ⟨h.os, h.tape, h.output, h.size, fun b hb hm => h.block b hb (Side.far_iff.2 hm)⟩

/-- The one group's blocks are none of the other's. -/
def Shy (n : Nat) (d d2 : Side) (g2 p2 : Nat) : Prop := ∀ b, some b ∈ d.feet n → d2.far n b ∧ b ≠ g2 ∧ b ≠ p2

section
variable {w0 W W' : World} {n LB LB' NB : Nat} {S S' S2 S2' : Nat → Sr} {d d' d2 d2' : Side} {g1 p1 c1 g2 p2 c2 : Nat}

theorem Shy.swap (h : Shy n d d2 g2 p2) : ∀ b, some b ∈ d2.feet n → d.far n b := fun b hb => Side.far_iff.2 fun hm => Side.far_iff.1 (h b hm).1 hb

/-- Behind a step of the one, the other is as it was. -/
theorem Shy.step (h : Grp w0 n LB NB S d g1 p1 c1 W) (h2 : Grp w0 n LB NB S2 d2 g2 p2 c2 W) (s1 : Shy n d d2 g2 p2) (s2 : Shy n d2 d g1 p1) (st : StepM n W d W' d') : Grp w0 n LB NB S2 d2 g2 p2 c2 W' ∧ Shy n d' d2 g2 p2 ∧ Shy n d2 d' g1 p1 := by
  have key : ∀ b, some b ∈ d'.feet n → some b ∈ d.feet n ∨ W.heap.size ≤ b := fun b hb => by
    by_cases hl : b < W.heap.size
    · by_cases hf : d.far n b
      · exact absurd hb (Side.far_iff.1 (st.far b hl hf))
      · exact .inl (by rw [Side.far_iff] at hf; exact Classical.not_not.1 hf)
    · exact .inr (by omega)
  have hlt : ∀ b, some b ∈ d2.feet n → b < W.heap.size := fun b hb => by
    obtain ⟨i, hi, hf⟩ := Side.mem_feet.1 hb
    exact h2.net.m.lt hi hf
  refine ⟨h2.keep st.upd fun b hb => ⟨?_, s1 b hb⟩, fun b hb => ?_, fun b hb => ⟨?_, (s2 b hb).2⟩⟩
  · by_cases hl : b < w0.heap.size
    · exact absurd hb (Side.far_iff.1 (h.net.old b hl).2)
    · omega
  · rcases key b hb with q | q
    · exact s1 b q
    · have := h2.glt
      have := h2.plt
      exact ⟨h2.net.m.new q, by omega, by omega⟩
  · exact st.far b (hlt b hb) (s2 b hb).1

end

/-- Two groups, each as a statement holds it. -/
def Duo (w0 : World) (n LB NB g1 p1 c1 g2 p2 c2 : Nat) (r1 r2 : Nat → Nat) (S S2 : Nat → Sr) (W : World) : Prop :=
  ∃ d d2 : Side, (∀ i, d.rb i = r1 i) ∧ (∀ i, d2.rb i = r2 i) ∧ Grp w0 n LB NB S d g1 p1 c1 W ∧ Grp w0 n LB NB S2 d2 g2 p2 c2 W ∧ Shy n d d2 g2 p2 ∧ Shy n d2 d g1 p1 ∧ W.os = w0.os ∧ W.tape = w0.tape ∧ W.output = w0.output

section
variable {w0 W W' : World} {n LB NB g1 p1 c1 g2 p2 c2 : Nat} {r1 r2 : Nat → Nat} {S S2 : Nat → Sr}

theorem Duo.swap (h : Duo w0 n LB NB g1 p1 c1 g2 p2 c2 r1 r2 S S2 W) : Duo w0 n LB NB g2 p2 c2 g1 p1 c1 r2 r1 S2 S W := by
  obtain ⟨d, d2, a1, a2, a3, a4, a5, a6, a7⟩ := h
  exact ⟨d2, d, a2, a1, a4, a3, a6, a5, a7⟩

theorem Duo.one (h : Duo w0 n LB NB g1 p1 c1 g2 p2 c2 r1 r2 S S2 W) : GrpR w0 n LB NB g1 p1 c1 r1 S W := by
  obtain ⟨d, d2, a1, a2, a3, a4, a5, a6, a7⟩ := h
  exact ⟨d, a1, a3, a7⟩

theorem Duo.below (h : Duo w0 n LB NB g1 p1 c1 g2 p2 c2 r1 r2 S S2 W) (hb : Below W.heap.size W W') : Duo w0 n LB NB g1 p1 c1 g2 p2 c2 r1 r2 S S2 W' := by
  obtain ⟨d, d2, a1, a2, a3, a4, a5, a6, a7, a8, a9⟩ := h
  exact ⟨d, d2, a1, a2, a3.below hb, a4.below hb, a5, a6, hb.os.trans a7, hb.tape.trans a8, hb.output.trans a9⟩

theorem Duo.rounds (h : Duo w0 n LB NB g1 p1 c1 g2 p2 c2 r1 r2 S S2 W) (hg : Glob w0) (r : Nat) (hr : r ≤ 1000) (hnow : ∀ i, i < n → (S i).now + r ≤ NB) (bw tw : Bool) :
    Calls Tryz.prog 21 #[.pointer (some ⟨g1, 0, none⟩), .int .i64 (r : Int), .bool bw, .bool tw] W fun e w' => e = .returned (.bool true) ∧ ∃ S', Rnds n r S S' ∧ Duo w0 n LB NB g1 p1 c1 g2 p2 c2 r1 r2 S' S2 w' ∧ ∀ i, i < n → (S' i).now = (S i).now + r := by
  obtain ⟨d, d2, a1, a2, a3, a4, a5, a6, a7, a8, a9⟩ := h
  refine (roundsG a3 hg r hr hnow bw tw).mono ?_
  rintro e w' ⟨he, S', d', h1, h2, h3, h4⟩
  obtain ⟨q1, q2, q3⟩ := Shy.step a3 a4 a5 a6 h3
  exact ⟨he, S', h1, ⟨d', d2, fun i => (h3.rb i).trans (a1 i), a2, h2, q1, q2, q3, h3.os.trans a7, h3.tape.trans a8, h3.output.trans a9⟩, h4⟩

/-- Do, all ways, in the one of two groups. -/
theorem Duo.do (h : Duo w0 n LB NB g1 p1 c1 g2 p2 c2 r1 r2 S S2 W) (hg : Glob w0) {i : Nat} (hi : i < n) (hLB : totalS n S < LB) (s : ByteArray) (hs : s.size ≤ maxLen) :
    Calls Tryz.prog 20 #[.pointer (some ⟨r1 i, 0, none⟩), .string s] W fun e w' =>
      (readC s = none ∧ e = .returned (.int .i64 2) ∧ Duo w0 n LB NB g1 p1 c1 g2 p2 c2 r1 r2 S S2 w') ∨
      (∃ c, readC s = some c ∧ goesB (cartG (S i).log (S i).log) c = false ∧ e = .returned (.int .i64 3) ∧ Duo w0 n LB NB g1 p1 c1 g2 p2 c2 r1 r2 S S2 w') ∨
      (∃ c, readC s = some c ∧ goesB (cartG (S i).log (S i).log) c = true ∧ 8 ≤ openI (S i).its ∧ e = .returned (.int .i64 4) ∧ Duo w0 n LB NB g1 p1 c1 g2 p2 c2 r1 r2 S S2 w') ∨
      (∃ x, readC s = some x.c ∧ goesB (cartG (S i).log (S i).log) x.c = true ∧ openI (S i).its < 8 ∧ x.org = i ∧ x.seq = cntL (S i).log i + 1 ∧ x.ah = reachOf (S i).log ∧ e = .returned (.int .i64 0) ∧ Duo w0 n LB NB g1 p1 c1 g2 p2 c2 r1 r2 (updS S i (doS n i (S i) x)) S2 w') := by
  obtain ⟨d, d2, a1, a2, a3, a4, a5, a6, a7, a8, a9⟩ := id h
  rw [← a1 i]
  refine (doN a3.net hg hi hLB s hs).mono ?_
  rintro e w' (⟨q, q2, q3⟩ | ⟨c', q, q2, q3, q4⟩ | ⟨c', q, q1, q2, q3, q4⟩ | ⟨x, q1, q2, q3, q4, q5, q6, q7, d', q8, q9⟩)
  · exact .inl ⟨q, q2, h.below q3⟩
  · exact .inr (.inl ⟨c', q, q2, q3, h.below q4⟩)
  · exact .inr (.inr (.inl ⟨c', q, q1, q2, q3, h.below q4⟩))
  · obtain ⟨t1, t2, t3⟩ := Shy.step a3 a4 a5 a6 q9
    exact .inr (.inr (.inr ⟨x, q1, q2, q3, q4, q5, q6, q7, d', d2, fun i => (q9.rb i).trans (a1 i), a2, a3.step q8 q9, t1, t2, t3, q9.os.trans a7, q9.tape.trans a8, q9.output.trans a9⟩))

theorem Duo.alike (h : Duo w0 n LB NB g1 p1 c1 g2 p2 c2 r1 r2 S S2 W) (hg : Glob w0) (N : Nat) (hN : ∀ i, i < n → (S i).log.length = N) (C : CartS) (hC : ∀ i, i < n → cartG (S i).log (S i).log = C) :
    Calls Tryz.prog 22 #[.pointer (some ⟨g1, 0, none⟩), .int .i64 (N : Int)] W fun e w' => e = .returned (.bool true) ∧ Duo w0 n LB NB g1 p1 c1 g2 p2 c2 r1 r2 S S2 w' := by
  obtain ⟨d, d2, a1, a2, a3, a4, a5, a6, a7⟩ := id h
  refine (alikeG a3 hg N hN C hC).mono ?_
  rintro e w' ⟨he, hb⟩
  exact ⟨he, h.below hb⟩

theorem Duo.view (h : Duo w0 n LB NB g1 p1 c1 g2 p2 c2 r1 r2 S S2 W) (hg : Glob w0) {i : Nat} (hi : i < n) :
    Calls Tryz.prog 23 #[.pointer (some ⟨r1 i, 0, none⟩)] W fun e w' => ∃ t, e = .returned (.string t) ∧ TextIs (cartG (S i).log (S i).log) t ∧ Duo w0 n LB NB g1 p1 c1 g2 p2 c2 r1 r2 S S2 w' := by
  obtain ⟨d, d2, a1, a2, a3, a4, a5, a6, a7⟩ := id h
  rw [← a1 i]
  refine (viewN a3.net hg hi).mono ?_
  rintro e w' ⟨s, he, hs, hb⟩
  exact ⟨s, he, hs, h.below hb⟩

end

end Go.Proofs.YtckmppkdpnhodaaGreatDoor

namespace Go.Proofs.YtckmppkdpnhodaaGreatDoor
set_option linter.unusedVariables false
set_option linter.unusedSimpArgs false
open Go.RowKit Go.Proofs

theorem Grp.weak {w0 w1 W : World} {n LB NB : Nat} {S : Nat → Sr} {d : Side} {gb pb pc : Nat} (h : Grp w1 n LB NB S d gb pb pc W) (hs : w0.heap.size ≤ w1.heap.size) (ho : ∀ b, b < w0.heap.size → w1.heap[b]? = w0.heap[b]?) : Grp w0 n LB NB S d gb pb pc W :=
  ⟨⟨h.net.m, h.net.ok, h.net.fit, Nat.le_trans hs h.net.size, fun b hb => ⟨(h.net.old b (by omega)).1.trans (ho b hb), (h.net.old b (by omega)).2⟩⟩, h.grp, h.ptr, ⟨Nat.le_trans hs h.gfar.1, h.gfar.2⟩, ⟨Nat.le_trans hs h.pfar.1, h.pfar.2⟩, h.pblk⟩

/-- A second group is begun. -/
theorem begunD {w0 W : World} {n LB NB g1 p1 c1 : Nat} {r1 : Nat → Nat} {S : Nat → Sr} (h : GrpR w0 n LB NB g1 p1 c1 r1 S W) (hLB : LB ≤ 4294900000) (hNB : NB ≤ 1000000000000000) :
    Calls Tryz.prog 19 #[.int .i64 (n : Int)] W fun e w' => ∃ g2 p2 c2 r2, e = .returned (.pointer (some ⟨g2, 0, none⟩)) ∧ Duo w0 n LB NB g1 p1 c1 g2 p2 c2 r1 r2 S (fun _ => Sr.empty) w' := by
  have hn := h.n5
  obtain ⟨d, hrb, hG, t1, t2, t3⟩ := h
  refine (begunG n hn W).mono ?_
  rintro e w' ⟨rbs, lv, he, hl, hB⟩
  obtain ⟨d2, p2, c2, hg2⟩ := hB.grp' (w0 := W) hn hl rfl (Nat.le_refl _) (fun _ _ => rfl) hLB hNB
  have hold := hG.net.old
  refine ⟨_, p2, c2, d2.rb, he, d, d2, hrb, fun _ => rfl, hG.below hB.bel, hg2.weak hG.net.size fun b hb => (hold b hb).1, fun b hb => ?_, fun b hb => ?_, hB.bel.os.trans t1, hB.bel.tape.trans t2, hB.bel.output.trans t3⟩
  · obtain ⟨i, hi, hf⟩ := Side.mem_feet.1 hb
    have hlt := hG.net.m.lt hi hf
    have := hg2.pfar.1
    exact ⟨(hg2.net.old b hlt).2, by omega, by omega⟩
  · have hge : W.heap.size ≤ b := by
      by_cases hl : b < W.heap.size
      · exact absurd hb (Side.far_iff.1 (hg2.net.old b hl).2)
      · omega
    have := hG.glt
    have := hG.plt
    exact ⟨hG.net.m.new hge, by omega, by omega⟩

/-- In both the same is known. -/
def Twin (n : Nat) (S S2 : Nat → Sr) : Prop := ∀ i, i < n → (S i).log.Perm (S2 i).log

theorem Twin.union {n : Nat} {S S2 : Nat → Sr} (h : Twin n S S2) : (unionS n S).Perm (unionS n S2) := flat_perm fun i hi => (h i hi).filter _

theorem Twin.cart {n : Nat} {S S2 : Nat → Sr} (h : Twin n S S2) {i : Nat} (hi : i < n) : cartG (S i).log (S i).log = cartG (S2 i).log (S2 i).log := cartG_perm (h i hi)

theorem en_ext {x y : En} (ho : x.org = y.org) (hs : x.seq = y.seq) (ha : x.ah = y.ah) (hc : x.c = y.c) : x = y := by
  cases x; cases y
  simp only at ho hs ha hc
  subst ho hs ha hc
  rfl

theorem reachOf_perm {a b : List En} (h : a.Perm b) : reachOf a = reachOf b := by simp [reachOf, cntL_perm h]

/-- The same command is done in both. -/
theorem Twin.do {n : Nat} {S S2 : Nat → Sr} (h : Twin n S S2) {i : Nat} (hi : i < n) {x y : En} (hc : x.c = y.c) (hxo : x.org = i) (hyo : y.org = i) (hxs : x.seq = cntL (S i).log i + 1) (hys : y.seq = cntL (S2 i).log i + 1) (hxa : x.ah = reachOf (S i).log) (hya : y.ah = reachOf (S2 i).log) : Twin n (updS S i (doS n i (S i) x)) (updS S2 i (doS n i (S2 i) y)) := by
  have e : x = y := en_ext (by rw [hxo, hyo]) (by rw [hxs, hys, cntL_perm (h i hi)]) (by rw [hxa, hya, reachOf_perm (h i hi)]) hc
  subst e
  intro j hj
  by_cases e : j = i
  · subst e; rw [updS_same, updS_same]; exact (h j hj).append_right _
  · rw [updS_other _ _ e, updS_other _ _ e]; exact h j hj

/-- Both come to rest. -/
theorem Twin.rest {n : Nat} {S S2 T T2 : Nat → Sr} (h : Twin n S S2) (o1 : ∀ i, i < n → ownL i (T i).log = ownL i (S i).log) (o2 : ∀ i, i < n → ownL i (T2 i).log = ownL i (S2 i).log) (k1 : NetOk n T) (k2 : NetOk n T2) (a1 : AllKnow n T) (a2 : AllKnow n T2) : Twin n T T2 := fun i hi => by
  refine (a1.union k1 hi).trans (List.Perm.trans ?_ (a2.union k2 hi).symm)
  rw [unionS_congr o1, unionS_congr o2]
  exact h.union

theorem cntI_append (a b : List It) (t : Nat) : cntI (a ++ b) t = cntI a t + cntI b t := by simp [cntI]

theorem openI_do {n i : Nat} (hn : n ≤ 5) {s : Sr} (x : En) (hnow : s.now < 1152921504606846976) : openI (doS n i s x).its ≤ openI s.its + 1 := by
  have h1 : ∀ t, cntI (newIts i s.now x n) t ≤ 1 := fun t => by
    by_cases ht : t < n ∧ t ≠ i
    · rw [← waitL_length, newIts_wait hnow hn ht.1 ht.2]; exact Nat.le_refl _
    · have : cntI (newIts i s.now x n) t = 0 := by
        unfold cntI
        rw [List.countP_eq_zero]
        intro p hp hc
        have := newIts_mem hnow hn hp
        simp at hc
        omega
      omega
  have h2 : ∀ t, cntI (doS n i s x).its t ≤ cntI s.its t + 1 := fun t => by
    show cntI (s.its ++ newIts i s.now x n) t ≤ _
    rw [cntI_append]
    have := h1 t
    omega
  have := h2 0; have := h2 1; have := h2 2; have := h2 3; have := h2 4
  unfold openI
  omega

end Go.Proofs.YtckmppkdpnhodaaGreatDoor

namespace Go.Proofs.YtckmppkdpnhodaaGreatDoor
set_option linter.unusedVariables false
set_option linter.unusedSimpArgs false
open Go.RowKit Go.Proofs

attribute [local go_sem ↓] Go.wp_at_zero Go.wp_at_succ

def wordA (w : Nat) : ByteArray := if w = 0 then ⟨#[116, 101, 97]⟩ else if w = 1 then ⟨#[109, 105, 108, 107]⟩ else ⟨#[115, 97, 108, 116]⟩

/-- The text of an act: what, of which word, how many. -/
def actB (k w c : Nat) : ByteArray :=
  if k ≤ 1 then ((⟨#[97, 100, 100, 32]⟩ ++ wordA w) ++ ⟨#[32]⟩) ++ (⟨#[49, 50, 51, 52, 53, 54, 55, 56, 57]⟩ : ByteArray).extract c (c + 1)
  else if k = 2 then ⟨#[114, 101, 109, 111, 118, 101, 32]⟩ ++ wordA w
  else if k = 3 then ⟨#[97, 112, 112, 108, 121, 32]⟩ ++ wordA w
  else if k = 4 then ⟨#[114, 101, 118, 111, 107, 101, 32]⟩ ++ wordA w
  else ⟨#[110, 111, 116, 101, 32]⟩ ++ wordA w

def actC (k w c : Nat) : Cm :=
  if k ≤ 1 then ⟨.closed, wordA w, c + 1⟩
  else if k = 2 then ⟨.listen, wordA w, 0⟩
  else if k = 3 then ⟨.established, wordA w, 0⟩
  else if k = 4 then ⟨.finWait, wordA w, 0⟩
  else ⟨.closeWait, wordA w, 0⟩

theorem act_read {k w c : Nat} (hk : k < 7) (hw : w < 3) (hc : c < 9) : readC (actB k w c) = some (actC k w c) ∧ (actB k w c).size ≤ 100 := by
  have h : ∀ c, c < 9 → ∀ w, w < 3 → readC (actB 0 w c) = some (actC 0 w c) ∧ (actB 0 w c).size ≤ 100 := fun c hc w hw => by
    rcases (show w = 0 ∨ w = 1 ∨ w = 2 by omega) with rfl | rfl | rfl <;> rcases (show c = 0 ∨ c = 1 ∨ c = 2 ∨ c = 3 ∨ c = 4 ∨ c = 5 ∨ c = 6 ∨ c = 7 ∨ c = 8 by omega) with rfl | rfl | rfl | rfl | rfl | rfl | rfl | rfl | rfl <;> exact ⟨by kernel_rfl, by decide +kernel⟩
  have h2 : ∀ w, w < 3 → ∀ k, k < 7 → 2 ≤ k → readC (actB k w 0) = some (actC k w 0) ∧ (actB k w 0).size ≤ 100 := fun w hw k hk h2 => by
    rcases (show w = 0 ∨ w = 1 ∨ w = 2 by omega) with rfl | rfl | rfl <;> rcases (show k = 2 ∨ k = 3 ∨ k = 4 ∨ k = 5 ∨ k = 6 by omega) with rfl | rfl | rfl | rfl | rfl <;> exact ⟨by kernel_rfl, by decide +kernel⟩
  by_cases hl : k ≤ 1
  · have e1 : actB k w c = actB 0 w c := by simp [actB, hl]
    have e2 : actC k w c = actC 0 w c := by simp [actC, hl]
    rw [e1, e2]
    exact h c hc w hw
  · have e1 : actB k w c = actB k w 0 := by simp [actB, hl]
    have e2 : actC k w c = actC k w 0 := by simp [actC, hl]
    rw [e1, e2]
    exact h2 w hw k hk (by omega)

set_option maxRecDepth 100000 in
set_option maxHeartbeats 8000000 in
theorem actTextG (W : World) (at_ what word count : Int) (h1 : -9223372036854775808 ≤ what ∧ what ≤ 9223372036854775807) (h2 : -9223372036854775808 ≤ word ∧ word ≤ 9223372036854775807) (h3 : -9223372036854775808 ≤ count ∧ count ≤ 9223372036854775807) :
    Calls Tryz.prog 24 #[.agg #[.int .i64 at_, .int .i64 what, .int .i64 word, .int .i64 count]] W fun e w' => e = .returned (.string (actB (pickN what 7) (pickN word 3) (pickN count 9))) ∧ Below W.heap.size W w' := by
  have hk : pickN what 7 < 7 := by have : (pickN what 7 : Int) < 7 := pickN_lt (by omega); omega
  have hw : pickN word 3 < 3 := by have : (pickN word 3 : Int) < 3 := pickN_lt (by omega); omega
  have hc : pickN count 9 < 9 := by have : (pickN count 9 : Int) < 9 := pickN_lt (by omega); omega
  have HP : Hid (∀ (c m : Int) (w : World), (-9223372036854775808 ≤ c ∧ c ≤ 9223372036854775807) → (0 < m ∧ m ≤ 100) → Calls Tryz.prog 18 #[.int .i64 c, .int .i64 m] w fun e w' => e = .returned (.int .i64 (pickN c m : Int)) ∧ w' = w) := fun c m w hc hm => pickK c m w hc hm
  generalize pickN = pk at *
  rcases (show pk word 3 = 0 ∨ pk word 3 = 1 ∨ pk word 3 = 2 by omega) with hw0 | hw0 | hw0 <;> rcases (show pk what 7 = 0 ∨ pk what 7 = 1 ∨ pk what 7 = 2 ∨ pk what 7 = 3 ∨ pk what 7 = 4 ∨ pk what 7 = 5 ∨ pk what 7 = 6 by omega) with hk0 | hk0 | hk0 | hk0 | hk0 | hk0 | hk0
  all_goals (
    rw [hw0, hk0]
    go_enter Tryz.func24, Tryz.ntmps24
    go_wp2_with (go_at_call 18; refine (HP.out _ _ _ (by assumption) (by omega)).mono ?_; rintro e w' ⟨rfl, hww⟩; have hw' := hww.symm; clear hww; subst hw')
    go_ret
    exact ⟨rfl, ((Below.refl _ W).alloc (Nat.le_refl _) _).alloc (by simp) _⟩)

end Go.Proofs.YtckmppkdpnhodaaGreatDoor
