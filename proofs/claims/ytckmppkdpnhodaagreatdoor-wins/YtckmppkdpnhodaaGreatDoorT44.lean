/-
  Wins: what each of its calls does.
-/
import Derived.Test.YtckmppkdpnhodaaGreatDoorT43
namespace Go.Proofs.YtckmppkdpnhodaaGreatDoor
set_option linter.unusedVariables false
set_option linter.unusedSimpArgs false
open Go.RowKit Go.Proofs

/-- A replica's log up to its order; at most so much waits. -/
def Loc (S : Nat → Sr) (i : Nat) (A : List En) (k : Nat) : Prop := (S i).log.Perm A ∧ (S i).its.length ≤ k

theorem Loc.do {n i : Nat} {S : Nat → Sr} {A : List En} {k : Nat} (h : Loc S i A k) (x : En) : Loc (updS S i (doS n i (S i) x)) i (A ++ [x]) (k + n) := by
  refine ⟨?_, ?_⟩
  · rw [updS_same]; exact h.1.append_right _
  · rw [updS_same]
    show ((S i).its ++ newIts i (S i).now x n).length ≤ _
    have := newIts_len i (S i).now x n
    have := h.2
    rw [List.length_append]; omega

theorem Loc.other {i j : Nat} {S : Nat → Sr} {A : List En} {k : Nat} (h : Loc S j A k) (hj : j ≠ i) (s : Sr) : Loc (updS S i s) j A k := by
  unfold Loc; rw [updS_other _ _ hj]; exact h

theorem Calm.loc {n : Nat} {S : Nat → Sr} {L : List En} {now : Nat} (h : Calm n S L now) {i : Nat} (hi : i < n) : Loc S i L 0 := ⟨h.log hi, by rw [h.its i hi]; exact Nat.le_refl _⟩

section
variable {W : World} {n gb pb pc : Nat} {rbs : Nat → Nat} {a b : Nat}

/-- The cells of a group that Wins reads. -/
def GC (n gb pb pc r0 r1 rm : Nat) (w : World) : Prop := w.cell? ⟨gb, 0, none⟩ = some (.slice (some ⟨pb, 0, none⟩) n pc) ∧ w.cell? ⟨pb, 0, none⟩ = some (.pointer (some ⟨r0, 0, none⟩)) ∧ w.cell? ⟨pb, 1, none⟩ = some (.pointer (some ⟨r1, 0, none⟩)) ∧ w.cell? ⟨pb, n - 1, none⟩ = some (.pointer (some ⟨rm, 0, none⟩))

theorem GrpR.gc {LB NB : Nat} {S : Nat → Sr} {w : World} (h : GrpR W n LB NB gb pb pc rbs S w) : GC n gb pb pc (rbs 0) (rbs 1) (rbs (n - 1)) w := by
  have := h.n5
  exact ⟨h.c0, h.ptr (by omega), h.ptr (by omega), h.ptr (by omega)⟩

/-- Where Wins stands, step by step. -/
def Wi0 (W : World) (n gb pb pc : Nat) (rbs : Nat → Nat) (w : World) : Prop := GrpR W n 10 1000 gb pb pc rbs (fun _ => Sr.empty) w
def Wi1 (W : World) (n gb pb pc : Nat) (rbs : Nat → Nat) (a : Nat) (w : World) : Prop := ∃ S x1, GrpR W n 10 1000 gb pb pc rbs S w ∧ Sit n S [x1] 0 ∧ Loc S 0 [x1] 5 ∧ x1.c = addC a ∧ x1.org = 0 ∧ x1.seq = 1
def Wi2 (W : World) (n gb pb pc : Nat) (rbs : Nat → Nat) (a : Nat) (w : World) : Prop := ∃ S x1 x2, GrpR W n 10 1000 gb pb pc rbs S w ∧ Sit n S [x1, x2] 0 ∧ Wn2 a x1 x2
def Wi3 (W : World) (n gb pb pc : Nat) (rbs : Nat → Nat) (a : Nat) (w : World) : Prop := ∃ S x1 x2, GrpR W n 10 1000 gb pb pc rbs S w ∧ Calm n S [x1, x2] 62 ∧ Wn2 a x1 x2
def Wi4 (W : World) (n gb pb pc : Nat) (rbs : Nat → Nat) (a : Nat) (w : World) : Prop := ∃ S x1 x2 x3, GrpR W n 10 1000 gb pb pc rbs S w ∧ Sit n S [x1, x2, x3] 62 ∧ Loc S 0 [x1, x2, x3] 5 ∧ Loc S 1 [x1, x2] 0 ∧ Wn3 a x1 x2 x3
def Wi5 (W : World) (n gb pb pc : Nat) (rbs : Nat → Nat) (a : Nat) (w : World) : Prop := ∃ S x1 x2 x3 x4, GrpR W n 10 1000 gb pb pc rbs S w ∧ Sit n S [x1, x2, x3, x4] 62 ∧ Loc S 0 [x1, x2, x3, x4] 10 ∧ Loc S 1 [x1, x2] 0 ∧ Wn4 a x1 x2 x3 x4
def Wi6 (W : World) (n gb pb pc : Nat) (rbs : Nat → Nat) (a b : Nat) (w : World) : Prop := ∃ S x1 x2 x3 x4 x5, GrpR W n 10 1000 gb pb pc rbs S w ∧ Sit n S [x1, x2, x3, x4, x5] 62 ∧ Loc S 0 [x1, x2, x3, x4] 10 ∧ Loc S 1 [x1, x2, x5] 5 ∧ Wn5 a b x1 x2 x3 x4 x5
def Wi7 (W : World) (n gb pb pc : Nat) (rbs : Nat → Nat) (a b : Nat) (w : World) : Prop := ∃ S x1 x2 x3 x4 x5 x6, GrpR W n 10 1000 gb pb pc rbs S w ∧ Sit n S [x1, x2, x3, x4, x5, x6] 62 ∧ Loc S 0 [x1, x2, x3, x4] 10 ∧ Wn6 a b x1 x2 x3 x4 x5 x6
def Wi8 (W : World) (n gb pb pc : Nat) (rbs : Nat → Nat) (a b : Nat) (w : World) : Prop := ∃ S x1 x2 x3 x4 x5 x6, GrpR W n 10 1000 gb pb pc rbs S w ∧ Calm n S [x1, x2, x3, x4, x5, x6] 124 ∧ Wn6 a b x1 x2 x3 x4 x5 x6
def Wi9 (W : World) (n gb pb pc : Nat) (rbs : Nat → Nat) (a b : Nat) (w : World) : Prop := ∃ S x1 x2 x3 x4 x5 x6 x7, GrpR W n 10 1000 gb pb pc rbs S w ∧ Sit n S [x1, x2, x3, x4, x5, x6, x7] 124 ∧ Loc S (n - 1) [x1, x2, x3, x4, x5, x6, x7] 5 ∧ Wn7 a b x1 x2 x3 x4 x5 x6 x7
def Wi10 (W : World) (n gb pb pc : Nat) (rbs : Nat → Nat) (a b : Nat) (w : World) : Prop := ∃ S x1 x2 x3 x4 x5 x6 x7, GrpR W n 10 1000 gb pb pc rbs S w ∧ Calm n S [x1, x2, x3, x4, x5, x6, x7] 186 ∧ Wn7 a b x1 x2 x3 x4 x5 x6 x7

theorem wi_0 (hg : Glob W) (ha : a < 9) (w : World) (h : Wi0 W n gb pb pc rbs w) : Calls Tryz.prog 20 #[.pointer (some ⟨rbs 0, 0, none⟩), .string (⟨#[97, 100, 100, 32, 116, 101, 97, 32]⟩ ++ dgB a)] w fun e w' => e = .returned (.int .i64 0) ∧ GC n gb pb pc (rbs 0) (rbs 1) (rbs (n - 1)) w' ∧ Hid (Wi1 W n gb pb pc rbs a w') := by
  have hn := GrpR.n5 h
  refine (GrpR.doP h hg (i := 0) (by omega) (Sit.empty n) (A := []) (List.Perm.refl _) (by decide) _ ?_ (rdAdd ha) (by rfl) (by decide)).mono ?_
  · have : (⟨#[97, 100, 100, 32, 116, 101, 97, 32]⟩ ++ dgB a : ByteArray).size = 9 := by rw [ByteArray.size_append]; rfl
    rw [this]; decide
  rintro e w' ⟨he, x, q1, q2, q3, q4, q5, q6⟩
  have hl : Loc (fun _ => Sr.empty) 0 [] 0 := ⟨List.Perm.refl _, Nat.le_refl _⟩
  have hl2 := hl.do (n := n) x
  exact ⟨he, q6.gc, _, x, q6, q5, ⟨hl2.1, by have := hl2.2; omega⟩, q1, q2, by rw [q3]; rfl⟩

theorem wi_1 (hg : Glob W) (w : World) (h : Wi1 W n gb pb pc rbs a w) : Calls Tryz.prog 20 #[.pointer (some ⟨rbs 0, 0, none⟩), .string ⟨#[97, 112, 112, 108, 121, 32, 104, 97, 108, 102]⟩] w fun e w' => e = .returned (.int .i64 0) ∧ GC n gb pb pc (rbs 0) (rbs 1) (rbs (n - 1)) w' ∧ Hid (Wi2 W n gb pb pc rbs a w') := by
  obtain ⟨S, x1, hG, hs, hl, c1, o1, s1⟩ := h
  have hn := hG.n5
  refine (hG.doP hg (i := 0) (by omega) hs hl.1 (by simp) _ (by decide +kernel) rdApp (by rfl) (by have := hl.2; omega)).mono ?_
  rintro e w' ⟨he, x, q1, q2, q3, q4, q5, q6⟩
  exact ⟨he, q6.gc, _, x1, x, q6, q5, c1, q1, o1, q2, s1, by rw [q3]; simp [cntL_cons, o1, cntL]⟩

theorem wi_2 (hg : Glob W) (bw tw : Bool) (w : World) (h : Wi2 W n gb pb pc rbs a w) : Calls Tryz.prog 21 #[.pointer (some ⟨gb, 0, none⟩), .int .i64 62, .bool bw, .bool tw] w fun e w' => e = .returned (.bool true) ∧ GC n gb pb pc (rbs 0) (rbs 1) (rbs (n - 1)) w' ∧ Hid (Wi3 W n gb pb pc rbs a w') := by
  obtain ⟨S, x1, x2, hG, hs, hw⟩ := h
  refine (hG.calm hg hs (by omega) bw tw).mono ?_
  rintro e w' ⟨he, S', q1, q2⟩
  exact ⟨he, q2.gc, S', x1, x2, q2, q1, hw⟩

theorem wi_3a (hg : Glob W) (w : World) (h : Wi3 W n gb pb pc rbs a w) : Calls Tryz.prog 22 #[.pointer (some ⟨gb, 0, none⟩), .int .i64 2] w fun e w' => e = .returned (.bool true) ∧ GC n gb pb pc (rbs 0) (rbs 1) (rbs (n - 1)) w' ∧ Hid (Wi3 W n gb pb pc rbs a w') := by
  obtain ⟨S, x1, x2, hG, hs, hw⟩ := h
  refine (hG.alikeC hg hs).mono ?_
  rintro e w' ⟨he, q⟩
  exact ⟨he, q.gc, S, x1, x2, q, hs, hw⟩

theorem wi_3v (hg : Glob W) (ha : a < 9) (w : World) (h : Wi3 W n gb pb pc rbs a w) : Calls Tryz.prog 23 #[.pointer (some ⟨rbs (n - 1), 0, none⟩)] w fun e w' => e = .returned (.string (bothB a)) ∧ GC n gb pb pc (rbs 0) (rbs 1) (rbs (n - 1)) w' ∧ Hid (Wi3 W n gb pb pc rbs a w') := by
  obtain ⟨S, x1, x2, hG, hs, hw⟩ := h
  have hn := hG.n5
  obtain ⟨t1, t2, t3⟩ := hw.cart ha
  refine (hG.viewP hg (i := n - 1) (by omega) (hs.log (by omega)) (tea_both t1 ha t2 t3)).mono ?_
  rintro e w' ⟨he, q⟩
  exact ⟨he, q.gc, S, x1, x2, q, hs, hw⟩

theorem wi_3 (hg : Glob W) (ha : a < 9) (w : World) (h : Wi3 W n gb pb pc rbs a w) : Calls Tryz.prog 20 #[.pointer (some ⟨rbs 0, 0, none⟩), .string ⟨#[114, 101, 109, 111, 118, 101, 32, 116, 101, 97]⟩] w fun e w' => e = .returned (.int .i64 0) ∧ GC n gb pb pc (rbs 0) (rbs 1) (rbs (n - 1)) w' ∧ Hid (Wi4 W n gb pb pc rbs a w') := by
  obtain ⟨S, x1, x2, hG, hs, hw⟩ := h
  have hn := hG.n5
  obtain ⟨t1, t2, t3⟩ := hw.cart ha
  have hl := hs.loc (i := 0) (by omega)
  refine (hG.doP hg (i := 0) (by omega) hs.sit hl.1 (by simp) _ (by decide +kernel) rdRem (by show ((cartG [x1, x2] [x1, x2]).it teaL).isSome = true; rw [t2]; rfl) (by have := hl.2; omega)).mono ?_
  rintro e w' ⟨he, x, q1, q2, q3, q4, q5, q6⟩
  have hl2 := hl.do (n := n) x
  exact ⟨he, q6.gc, _, x1, x2, x, q6, q5, ⟨hl2.1, by have := hl2.2; omega⟩, (hs.loc (i := 1) (by omega)).other (by omega) _, hw, q1, q2, q4⟩

theorem wi_4 (hg : Glob W) (w : World) (h : Wi4 W n gb pb pc rbs a w) : Calls Tryz.prog 20 #[.pointer (some ⟨rbs 0, 0, none⟩), .string ⟨#[114, 101, 118, 111, 107, 101, 32, 104, 97, 108, 102]⟩] w fun e w' => e = .returned (.int .i64 0) ∧ GC n gb pb pc (rbs 0) (rbs 1) (rbs (n - 1)) w' ∧ Hid (Wi5 W n gb pb pc rbs a w') := by
  obtain ⟨S, x1, x2, x3, hG, hs, hl, hl1, hw⟩ := h
  have hn := hG.n5
  refine (hG.doP hg (i := 0) (by omega) hs hl.1 (by simp) _ (by decide +kernel) rdRev hw.cp (by have := hl.2; omega)).mono ?_
  rintro e w' ⟨he, x, q1, q2, q3, q4, q5, q6⟩
  have hl2 := hl.do (n := n) x
  exact ⟨he, q6.gc, _, x1, x2, x3, x, q6, q5, ⟨hl2.1, by have := hl2.2; omega⟩, hl1.other (by omega) _, hw, q1, q2, q4⟩

theorem wi_5 (hg : Glob W) (hb : b < 9) (w : World) (h : Wi5 W n gb pb pc rbs a w) : Calls Tryz.prog 20 #[.pointer (some ⟨rbs 1, 0, none⟩), .string (⟨#[97, 100, 100, 32, 116, 101, 97, 32]⟩ ++ dgB b)] w fun e w' => e = .returned (.int .i64 0) ∧ GC n gb pb pc (rbs 0) (rbs 1) (rbs (n - 1)) w' ∧ Hid (Wi6 W n gb pb pc rbs a b w') := by
  obtain ⟨S, x1, x2, x3, x4, hG, hs, hl, hl1, hw⟩ := h
  have hn := hG.n5
  refine (hG.doP hg (i := 1) (by omega) hs hl1.1 (by simp) _ ?_ (rdAdd hb) (by rfl) (by have := hl1.2; omega)).mono ?_
  · have : (⟨#[97, 100, 100, 32, 116, 101, 97, 32]⟩ ++ dgB b : ByteArray).size = 9 := by rw [ByteArray.size_append]; rfl
    rw [this]; decide
  rintro e w' ⟨he, x, q1, q2, q3, q4, q5, q6⟩
  have hl2 := hl1.do (n := n) x
  exact ⟨he, q6.gc, _, x1, x2, x3, x4, x, q6, q5, hl.other (by omega) _, ⟨hl2.1, by have := hl2.2; omega⟩, hw, q1, q2, by rw [q3]; simp [cntL_cons, hw.o1, hw.o2, cntL]⟩

theorem wi_6 (hg : Glob W) (w : World) (h : Wi6 W n gb pb pc rbs a b w) : Calls Tryz.prog 20 #[.pointer (some ⟨rbs 1, 0, none⟩), .string ⟨#[97, 112, 112, 108, 121, 32, 104, 97, 108, 102]⟩] w fun e w' => e = .returned (.int .i64 0) ∧ GC n gb pb pc (rbs 0) (rbs 1) (rbs (n - 1)) w' ∧ Hid (Wi7 W n gb pb pc rbs a b w') := by
  obtain ⟨S, x1, x2, x3, x4, x5, hG, hs, hl, hl1, hw⟩ := h
  have hn := hG.n5
  refine (hG.doP hg (i := 1) (by omega) hs hl1.1 (by simp) _ (by decide +kernel) rdApp (by rfl) (by have := hl1.2; omega)).mono ?_
  rintro e w' ⟨he, x, q1, q2, q3, q4, q5, q6⟩
  exact ⟨he, q6.gc, _, x1, x2, x3, x4, x5, x, q6, q5, hl.other (by omega) _, hw, q1, q2, by rw [q3]; simp [cntL_cons, hw.o1, hw.o2, hw.o5, cntL]⟩

theorem wi_7v (hg : Glob W) (w : World) (h : Wi7 W n gb pb pc rbs a b w) : Calls Tryz.prog 23 #[.pointer (some ⟨rbs 0, 0, none⟩)] w fun e w' => e = .returned (.string ⟨#[]⟩) ∧ GC n gb pb pc (rbs 0) (rbs 1) (rbs (n - 1)) w' ∧ Hid (Wi7 W n gb pb pc rbs a b w') := by
  obtain ⟨S, x1, x2, x3, x4, x5, x6, hG, hs, hl, hw⟩ := h
  have hn := hG.n5
  obtain ⟨t1, t2, t3⟩ := hw.toWn5.toWn4.cart
  refine (hG.viewP hg (i := 0) (by omega) hl.1 (tea_none t1 t2 t3)).mono ?_
  rintro e w' ⟨he, q⟩
  exact ⟨he, q.gc, S, x1, x2, x3, x4, x5, x6, q, hs, hl, hw⟩

theorem wi_7 (hg : Glob W) (bw tw : Bool) (w : World) (h : Wi7 W n gb pb pc rbs a b w) : Calls Tryz.prog 21 #[.pointer (some ⟨gb, 0, none⟩), .int .i64 62, .bool bw, .bool tw] w fun e w' => e = .returned (.bool true) ∧ GC n gb pb pc (rbs 0) (rbs 1) (rbs (n - 1)) w' ∧ Hid (Wi8 W n gb pb pc rbs a b w') := by
  obtain ⟨S, x1, x2, x3, x4, x5, x6, hG, hs, hl, hw⟩ := h
  refine (hG.calm hg hs (by omega) bw tw).mono ?_
  rintro e w' ⟨he, S', q1, q2⟩
  exact ⟨he, q2.gc, S', x1, x2, x3, x4, x5, x6, q2, q1, hw⟩

theorem wi_8a (hg : Glob W) (w : World) (h : Wi8 W n gb pb pc rbs a b w) : Calls Tryz.prog 22 #[.pointer (some ⟨gb, 0, none⟩), .int .i64 6] w fun e w' => e = .returned (.bool true) ∧ GC n gb pb pc (rbs 0) (rbs 1) (rbs (n - 1)) w' ∧ Hid (Wi8 W n gb pb pc rbs a b w') := by
  obtain ⟨S, x1, x2, x3, x4, x5, x6, hG, hs, hw⟩ := h
  refine (hG.alikeC hg hs).mono ?_
  rintro e w' ⟨he, q⟩
  exact ⟨he, q.gc, S, x1, x2, x3, x4, x5, x6, q, hs, hw⟩

theorem wi_8v (hg : Glob W) (hb : b < 9) (w : World) (h : Wi8 W n gb pb pc rbs a b w) : Calls Tryz.prog 23 #[.pointer (some ⟨rbs (n - 1), 0, none⟩)] w fun e w' => e = .returned (.string (bothB b)) ∧ GC n gb pb pc (rbs 0) (rbs 1) (rbs (n - 1)) w' ∧ Hid (Wi8 W n gb pb pc rbs a b w') := by
  obtain ⟨S, x1, x2, x3, x4, x5, x6, hG, hs, hw⟩ := h
  have hn := hG.n5
  obtain ⟨t1, t2, t3⟩ := hw.cart hb
  refine (hG.viewP hg (i := n - 1) (by omega) (hs.log (by omega)) (tea_both t1 hb t2 t3)).mono ?_
  rintro e w' ⟨he, q⟩
  exact ⟨he, q.gc, S, x1, x2, x3, x4, x5, x6, q, hs, hw⟩

theorem wi_8 (hg : Glob W) (hb : b < 9) (w : World) (h : Wi8 W n gb pb pc rbs a b w) : Calls Tryz.prog 20 #[.pointer (some ⟨rbs (n - 1), 0, none⟩), .string ⟨#[114, 101, 109, 111, 118, 101, 32, 116, 101, 97]⟩] w fun e w' => e = .returned (.int .i64 0) ∧ GC n gb pb pc (rbs 0) (rbs 1) (rbs (n - 1)) w' ∧ Hid (Wi9 W n gb pb pc rbs a b w') := by
  obtain ⟨S, x1, x2, x3, x4, x5, x6, hG, hs, hw⟩ := h
  have hn := hG.n5
  obtain ⟨t1, t2, t3⟩ := hw.cart hb
  have hl := hs.loc (i := n - 1) (by omega)
  refine (hG.doP hg (i := n - 1) (by omega) hs.sit hl.1 (by simp) _ (by decide +kernel) rdRem (by show ((cartG [x1, x2, x3, x4, x5, x6] [x1, x2, x3, x4, x5, x6]).it teaL).isSome = true; rw [t2]; rfl) (by have := hl.2; omega)).mono ?_
  rintro e w' ⟨he, x, q1, q2, q3, q4, q5, q6⟩
  have hl2 := hl.do (n := n) x
  exact ⟨he, q6.gc, _, x1, x2, x3, x4, x5, x6, x, q6, q5, ⟨hl2.1, by have := hl2.2; omega⟩, hw, q1, q4⟩

theorem wi_9u (hg : Glob W) (w : World) (h : Wi9 W n gb pb pc rbs a b w) : Calls Tryz.prog 20 #[.pointer (some ⟨rbs (n - 1), 0, none⟩), .string ⟨#[114, 101, 109, 111, 118, 101, 32, 116, 101, 97]⟩] w fun e w' => e = .returned (.int .i64 3) ∧ GC n gb pb pc (rbs 0) (rbs 1) (rbs (n - 1)) w' ∧ Hid (Wi9 W n gb pb pc rbs a b w') := by
  obtain ⟨S, x1, x2, x3, x4, x5, x6, x7, hG, hs, hl, hw⟩ := h
  have hn := hG.n5
  obtain ⟨t1, t2, t3⟩ := hw.cart
  refine (hG.doU hg (i := n - 1) (by omega) hs hl.1 (by simp) _ (by decide +kernel) rdRem (by show ((cartG [x1, x2, x3, x4, x5, x6, x7] [x1, x2, x3, x4, x5, x6, x7]).it teaL).isSome = false; rw [t2]; rfl)).mono ?_
  rintro e w' ⟨he, q⟩
  exact ⟨he, q.gc, S, x1, x2, x3, x4, x5, x6, x7, q, hs, hl, hw⟩

theorem wi_9 (hg : Glob W) (bw tw : Bool) (w : World) (h : Wi9 W n gb pb pc rbs a b w) : Calls Tryz.prog 21 #[.pointer (some ⟨gb, 0, none⟩), .int .i64 62, .bool bw, .bool tw] w fun e w' => e = .returned (.bool true) ∧ GC n gb pb pc (rbs 0) (rbs 1) (rbs (n - 1)) w' ∧ Hid (Wi10 W n gb pb pc rbs a b w') := by
  obtain ⟨S, x1, x2, x3, x4, x5, x6, x7, hG, hs, hl, hw⟩ := h
  refine (hG.calm hg hs (by omega) bw tw).mono ?_
  rintro e w' ⟨he, S', q1, q2⟩
  exact ⟨he, q2.gc, S', x1, x2, x3, x4, x5, x6, x7, q2, q1, hw⟩

theorem wi_10a (hg : Glob W) (w : World) (h : Wi10 W n gb pb pc rbs a b w) : Calls Tryz.prog 22 #[.pointer (some ⟨gb, 0, none⟩), .int .i64 7] w fun e w' => e = .returned (.bool true) ∧ GC n gb pb pc (rbs 0) (rbs 1) (rbs (n - 1)) w' ∧ Hid (Wi10 W n gb pb pc rbs a b w') := by
  obtain ⟨S, x1, x2, x3, x4, x5, x6, x7, hG, hs, hw⟩ := h
  refine (hG.alikeC hg hs).mono ?_
  rintro e w' ⟨he, q⟩
  exact ⟨he, q.gc, S, x1, x2, x3, x4, x5, x6, x7, q, hs, hw⟩

theorem wi_10v (hg : Glob W) (w : World) (h : Wi10 W n gb pb pc rbs a b w) : Calls Tryz.prog 23 #[.pointer (some ⟨rbs 0, 0, none⟩)] w fun e w' => e = .returned (.string coupB) ∧ Hid (Below W.heap.size W w') := by
  obtain ⟨S, x1, x2, x3, x4, x5, x6, x7, hG, hs, hw⟩ := h
  have hn := hG.n5
  obtain ⟨t1, t2, t3⟩ := hw.cart
  refine (hG.viewP hg (i := 0) (by omega) (hs.log (by omega)) (tea_coup t1 t2 t3)).mono ?_
  rintro e w' ⟨he, q⟩
  exact ⟨he, q.old⟩

end

end Go.Proofs.YtckmppkdpnhodaaGreatDoor
