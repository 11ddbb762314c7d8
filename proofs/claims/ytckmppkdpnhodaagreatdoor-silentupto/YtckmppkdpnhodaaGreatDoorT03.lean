/-
  Contracts of strings.Cut at a blank, strings.Clone, commands.newCommand, parseAdd, Parse. Contract of commands.Parse. Contract of (Command).Text. Contract of (*Log).Ops. Entries of whatever replica: how many commands of each are ahead; their cells in memory.
-/
import Derived.Test.YtckmppkdpnhodaaGreatDoorT02
import Derived.Deep.RegionHeld3
namespace Go.Proofs.YtckmppkdpnhodaaGreatDoor
set_option linter.unusedVariables false
set_option linter.unusedSimpArgs false
open Go.RowKit Go.Proofs

attribute [local go_sem ↓] Go.wp_at_zero Go.wp_at_succ

set_option maxHeartbeats 400000 in
theorem cut_any (s : ByteArray) (w : World) (hs : s.size ≤ maxLen) :
    Calls Tryz.prog 80 #[.string s, .string ⟨#[32]⟩] w fun e w' => e = .returned (.tuple #[.string (headOf s), .string (tailOf s), .bool (hasBlank s)]) ∧ ∃ n, w' = w.drewN n := by
  go_enter Tryz.func80, Tryz.ntmps80
  go_wp2_with (go_at_call 125; refine (lcut_any s _ hs).mono ?_; rintro e w' ⟨rfl, nd, rfl⟩)
  go_ret3
  exact ⟨rfl, nd, rfl⟩

set_option maxHeartbeats 400000 in
theorem clone_any (s : ByteArray) (w : World) (hs : s.size ≤ 281474976710656) :
    Calls Tryz.prog 127 #[.string s] w fun e w' => e = .returned (.string s) ∧ Below w.heap.size w w' := by
  go_enter Tryz.func127, Tryz.ntmps127
  go_wp2_with (go_at_call 158; refine (Tryz.stringslite_Clone s _ hs).mono ?_; rintro e w' ⟨rfl, hb⟩)
  go_ret
  exact ⟨rfl, hb⟩

theorem new_cell (w : World) (cs : Array Value) (t : TypeId) {w' : World} (hb : Below (w.alloc (.cells cs t)).heap.size (w.alloc (.cells cs t)) w') (o : Nat) (v : Value) (hv : cs[o]? = some v) :
    w'.cell? ⟨w.heap.size, o, none⟩ = some v ∧ w'.frozen? ⟨w.heap.size, o, none⟩ = false := by
  have h : w'.heap[w.heap.size]? = some (.cells cs t (0, 0)) := (hb.block _ (by simp)).trans (heap_alloc_new w _)
  exact ⟨by rw [cell_of_heap h]; exact hv, frozen_of_heap h o⟩

theorem old_cell {W w' : World} {b : Nat} {cs : Array Value} {t : TypeId} (hW : W.heap[b]? = some (.cells cs t (0, 0))) (hb : Below W.heap.size W w') (o : Nat) (v : Value) (hv : cs[o]? = some v) :
    w'.cell? ⟨b, o, none⟩ = some v ∧ w'.frozen? ⟨b, o, none⟩ = false := by
  have h : w'.heap[b]? = some (.cells cs t (0, 0)) := (hb.block _ (Array.getElem?_eq_some_iff.1 hW).1).trans hW
  exact ⟨by rw [cell_of_heap h]; exact hv, frozen_of_heap h o⟩

theorem new_cellN (w : World) (cs : Array Value) (t : TypeId) (n : Nat) {w' : World} (hb : Below ((w.alloc (.cells cs t)).drewN n).heap.size ((w.alloc (.cells cs t)).drewN n) w') (o : Nat) (v : Value) (hv : cs[o]? = some v) :
    w'.cell? ⟨w.heap.size, o, none⟩ = some v ∧ w'.frozen? ⟨w.heap.size, o, none⟩ = false :=
  old_cell (W := (w.alloc (.cells cs t)).drewN n) (heap_alloc_new w (.cells cs t)) hb o v hv

set_option maxRecDepth 100000 in
set_option maxHeartbeats 1000000 in
theorem newCommand_any (k c : Nat) (s : ByteArray) (w : World) (hs : s.size ≤ 281474976710656) :
    Calls Tryz.prog 84 #[.int .i64 (k : Int), .string s, .int .i64 (c : Int)] w fun e w' => e = .returned (.agg #[.int .i64 (k : Int), .string s, .int .i64 (c : Int)]) ∧ Below w.heap.size w w' := by
  have HC : Hid (∀ W, Calls Tryz.prog 127 #[.string s] W fun e w' => e = .returned (.string s) ∧ Below W.heap.size W w') := fun W => clone_any s W hs
  go_enter Tryz.func84, Tryz.ntmps84
  go_wp2_with (go_at_call 127; refine (HC.out _).mono ?_; rintro e w1 ⟨rfl, hb⟩; obtain ⟨c0, f0⟩ := new_cell w _ _ hb 0 _ rfl; obtain ⟨c1, f1⟩ := new_cell w _ _ hb 1 _ rfl; obtain ⟨c2, f2⟩ := new_cell w _ _ hb 2 _ rfl; have hB : Below w.heap.size w w1 := ((Below.refl _ w).alloc (Nat.le_refl _) _).trans (hb.mono (by simp)); clear hb)
  all_goals exact bodyPost_ret (v := .agg #[.int .i64 (k : Int), .string s, .int .i64 (c : Int)]) (by simp [results, Tryz.results84, go_sem, c0, c1, c2]) rfl ⟨rfl, by repeat' first | exact hB | apply Below.drew | refine Below.setCell ?_ (by first | (simp; done) | (simp; omega)) _ | refine Below.alloc ?_ (by first | (simp; done) | (simp; omega)) _⟩

section
variable (s : ByteArray) (w : World)

set_option maxRecDepth 100000 in
set_option maxHeartbeats 1000000 in
theorem parseAdd_good (hs : Hid (s.size ≤ maxLen)) (hh : Hid ((headOf s).size ≤ maxLen)) (ht : Hid ((tailOf s).size ≤ maxLen)) (h1 : wordB (headOf s) = true) (h2 : 0 < countN (tailOf s)) :
    Calls Tryz.prog 82 #[.string s] w fun e w' => e = .returned (.tuple #[.agg #[.int .i64 0, .string (headOf s), .int .i64 (countN (tailOf s) : Int)], .bool true]) ∧ Below w.heap.size w w' := by
  have hw8 : (headOf s).size ≤ 281474976710656 := by
    simp only [wordB, Bool.and_eq_true, decide_eq_true_eq] at h1; omega
  have HN : Hid (∀ W c, Calls Tryz.prog 84 #[.int .i64 0, .string (headOf s), .int .i64 ((c : Nat) : Int)] W fun e w' => e = .returned (.agg #[.int .i64 0, .string (headOf s), .int .i64 (c : Int)]) ∧ Below W.heap.size W w') := fun W c => newCommand_any 0 c _ W hw8
  have hcb : ((countN (tailOf s) : Int) == 0) = false := by rw [beq_eq_false_iff_ne]; omega
  clear hw8
  go_enter Tryz.func82, Tryz.ntmps82
  go_wp2_with (first
    | (go_at_call 80; refine (cut_any _ _ hs.out).mono ?_; rintro e w' ⟨rfl, nd, rfl⟩)
    | (go_at_call 126; refine (countOf_any _ _ ht.out).mono ?_; rintro e w' ⟨rfl, rfl⟩)
    | (go_at_call 83; refine (isWord_any _ _ hh.out).mono ?_; rintro e w' ⟨rfl, rfl⟩)
    | (go_at_call 84; refine (HN.out _ _).mono ?_; rintro e w1 ⟨rfl, hb⟩; obtain ⟨c0, f0⟩ := new_cellN w _ _ _ hb 0 _ rfl; obtain ⟨c1, f1⟩ := new_cellN w _ _ _ hb 1 _ rfl; obtain ⟨c2, f2⟩ := new_cellN w _ _ _ hb 2 _ rfl; have hB : Below w.heap.size w w1 := (below_drewN ((Below.refl _ w).alloc (Nat.le_refl _) _) _).trans (hb.mono (by simp)); clear hb))
  all_goals exact bodyPost_ret (v := .tuple #[.agg #[.int .i64 0, .string (headOf s), .int .i64 (countN (tailOf s) : Int)], .bool true]) (by simp [results, Tryz.results82, go_sem, c0, c1, c2]) rfl ⟨rfl, by repeat' first | exact hB | apply Below.drew | refine Below.setCell ?_ (by first | (simp; done) | (simp; omega)) _ | refine Below.alloc ?_ (by first | (simp; done) | (simp; omega)) _⟩

set_option maxRecDepth 100000 in
set_option maxHeartbeats 1000000 in
theorem parseAdd_bad (hs : Hid (s.size ≤ maxLen)) (hh : Hid ((headOf s).size ≤ maxLen)) (ht : Hid ((tailOf s).size ≤ maxLen)) (h1 : wordB (headOf s) = false ∨ countN (tailOf s) = 0) :
    Calls Tryz.prog 82 #[.string s] w fun e w' => e = .returned (.tuple #[.agg #[.int .i64 0, .string ⟨#[]⟩, .int .i64 0], .bool false]) ∧ Below w.heap.size w w' := by
  have hcb : wordB (headOf s) = false ∨ (wordB (headOf s) = true ∧ ((countN (tailOf s) : Int) == 0) = true) := by
    cases hw : wordB (headOf s) with
    | false => exact .inl rfl
    | true =>
      rcases h1 with h | h
      · rw [hw] at h; cases h
      · exact .inr ⟨rfl, by rw [h]; rfl⟩
  clear h1
  rcases hcb with hcb | ⟨hcb, hcc⟩
  all_goals
    go_enter Tryz.func82, Tryz.ntmps82
    go_wp2_with (first
      | (go_at_call 80; refine (cut_any _ _ hs.out).mono ?_; rintro e w' ⟨rfl, nd, rfl⟩)
      | (go_at_call 126; refine (countOf_any _ _ ht.out).mono ?_; rintro e w' ⟨rfl, rfl⟩)
      | (go_at_call 83; refine (isWord_any _ _ hh.out).mono ?_; rintro e w' ⟨rfl, rfl⟩))
    all_goals exact bodyPost_ret (v := .tuple #[.agg #[.int .i64 0, .string ⟨#[]⟩, .int .i64 0], .bool false]) (by simp [results, Tryz.results82, go_sem]) rfl ⟨rfl, by repeat' first | exact Below.refl _ _ | apply Below.drew | refine below_drewN ?_ _ | refine Below.setCell ?_ (by first | (simp; done) | (simp; omega)) _ | refine Below.alloc ?_ (by first | (simp; done) | (simp; omega)) _⟩
end

end Go.Proofs.YtckmppkdpnhodaaGreatDoor

namespace Go.Proofs.YtckmppkdpnhodaaGreatDoor
set_option linter.unusedVariables false
set_option linter.unusedSimpArgs false
open Go.RowKit Go.Proofs

attribute [local go_sem ↓] Go.wp_at_zero Go.wp_at_succ

theorem wordB_blank {s : ByteArray} (h : blank s < s.size) : wordB s = false := by
  cases hw : wordB s with
  | false => rfl
  | true =>
    simp only [wordB, Bool.and_eq_true, List.all_eq_true] at hw
    have hm := mem_byte s (blank s) h
    have := hw.2 _ hm
    rw [blank_is h] at this
    simp [isLow] at this

theorem wordB_empty : wordB ByteArray.empty = false := by decide

theorem Kd.bs_iff (a b : Kd) : a.bs = b.bs ↔ a = b := ⟨Kd.bs_inj, fun h => by rw [h]⟩

theorem tailOf_no {t : ByteArray} (h : ¬ blank t < t.size) : tailOf t = ByteArray.empty := by unfold tailOf; rw [if_neg h]
theorem headOf_no {t : ByteArray} (h : ¬ blank t < t.size) : headOf t = t := by unfold headOf; rw [if_neg h]

/-- readC, as Parse goes. -/
theorem read_as (s : ByteArray) : readC s = match kdOf (headOf s) with
    | none => none
    | some k => if k = .closed then (if wordB (headOf (tailOf s)) = true ∧ 0 < countN (tailOf (tailOf s)) then some ⟨.closed, headOf (tailOf s), countN (tailOf (tailOf s))⟩ else none)
      else if wordB (tailOf s) = true then some ⟨k, tailOf s, 0⟩ else none := by
  have h0 : headOf ByteArray.empty = ByteArray.empty := rfl
  have c0 : countN ByteArray.empty = 0 := rfl
  have e0 : hasBlank s = false → tailOf s = ByteArray.empty := fun h => tailOf_no (by simpa [hasBlank] using h)
  have e1 : hasBlank (tailOf s) = false → headOf (tailOf s) = tailOf s ∧ tailOf (tailOf s) = ByteArray.empty := fun h => ⟨headOf_no (by simpa [hasBlank] using h), tailOf_no (by simpa [hasBlank] using h)⟩
  have e2 : hasBlank (tailOf s) = true → wordB (tailOf s) = false := fun h => wordB_blank (by simpa [hasBlank] using h)
  unfold readC kdOf
  generalize headOf s = hd
  cases hb : hasBlank s with
  | false =>
    have he := e0 hb
    rw [he, h0, wordB_empty]
    by_cases a0 : hd = (Kd.bs Go.Tcp.closed)
    · subst a0; simp [Kd.bs_iff]
    by_cases a1 : hd = (Kd.bs Go.Tcp.listen)
    · subst a1; simp [Kd.bs_iff]
    by_cases a2 : hd = (Kd.bs Go.Tcp.established)
    · subst a2; simp [Kd.bs_iff]
    by_cases a3 : hd = (Kd.bs Go.Tcp.finWait)
    · subst a3; simp [Kd.bs_iff]
    by_cases a4 : hd = (Kd.bs Go.Tcp.closeWait)
    · subst a4; simp [Kd.bs_iff]
    simp [a0, a1, a2, a3, a4]
  | true =>
    cases hb2 : hasBlank (tailOf s) with
    | false =>
      obtain ⟨f1, f2⟩ := e1 hb2
      rw [f1, f2, c0]
      by_cases hw : wordB (tailOf s) = true
      all_goals
        by_cases a0 : hd = (Kd.bs Go.Tcp.closed)
        · subst a0; simp [Kd.bs_iff, hw]
        by_cases a1 : hd = (Kd.bs Go.Tcp.listen)
        · subst a1; simp [Kd.bs_iff, hw]
        by_cases a2 : hd = (Kd.bs Go.Tcp.established)
        · subst a2; simp [Kd.bs_iff, hw]
        by_cases a3 : hd = (Kd.bs Go.Tcp.finWait)
        · subst a3; simp [Kd.bs_iff, hw]
        by_cases a4 : hd = (Kd.bs Go.Tcp.closeWait)
        · subst a4; simp [Kd.bs_iff, hw]
        simp [a0, a1, a2, a3, a4]
    | true =>
      have f1 := e2 hb2
      rw [f1]
      by_cases hw : wordB (headOf (tailOf s)) = true
      all_goals
        by_cases a0 : hd = (Kd.bs Go.Tcp.closed)
        · subst a0; simp [Kd.bs_iff, hw]
        by_cases a1 : hd = (Kd.bs Go.Tcp.listen)
        · subst a1; simp [Kd.bs_iff, hw]
        by_cases a2 : hd = (Kd.bs Go.Tcp.established)
        · subst a2; simp [Kd.bs_iff, hw]
        by_cases a3 : hd = (Kd.bs Go.Tcp.finWait)
        · subst a3; simp [Kd.bs_iff, hw]
        by_cases a4 : hd = (Kd.bs Go.Tcp.closeWait)
        · subst a4; simp [Kd.bs_iff, hw]
        simp [a0, a1, a2, a3, a4]

/-- What Parse answers. -/
def parseRes (o : Option Cm) : Value := .tuple #[.agg #[.int .i64 ((o.map (·.k.num)).getD 0 : Nat), .string ((o.map (·.word)).getD ⟨#[]⟩), .int .i64 ((o.map (·.count)).getD 0 : Nat)], .bool o.isSome]

theorem VerbsAt.below {w w' : World} (h : VerbsAt w) (hb : Below w.heap.size w w') : VerbsAt w' := fun k => cell_below hb (h k)

set_option maxRecDepth 100000 in
set_option maxHeartbeats 2000000 in
theorem parse_any (s : ByteArray) (w : World) (hs : s.size ≤ maxLen) (hv : VerbsAt w) :
    Calls Tryz.prog 46 #[.string s] w fun e w' => e = .returned (parseRes (readC s)) ∧ Below w.heap.size w w' := by
  have hS : Hid (s.size ≤ maxLen) := hs
  have hT : Hid ((tailOf s).size ≤ maxLen) := Nat.le_trans (tailOf_size s) hs
  have hTH : Hid ((headOf (tailOf s)).size ≤ maxLen) := Nat.le_trans (headOf_size _) hT.out
  have hTT : Hid ((tailOf (tailOf s)).size ≤ maxLen) := Nat.le_trans (tailOf_size _) hT.out
  have HV : Hid (VerbsAt w) := hv
  clear hs hv
  have ra := read_as s
  have HK : Hid (∀ W, Below w.heap.size w W → Calls Tryz.prog 81 #[.string (headOf s)] W fun e w' => e = .returned (kdRes (kdOf (headOf s))) ∧ w' = W) := fun W hW => kindOf_any _ W (HV.out.below hW)
  cases hq : kdOf (headOf s) with
  | none =>
    rw [hq] at ra HK
    simp only at ra
    rw [ra]
    clear ra hq
    simp only [kdRes, Option.map_none, Option.getD_none, Option.isSome_none] at HK
    simp only [parseRes, Option.map_none, Option.getD_none, Option.isSome_none]
    go_enter Tryz.func46, Tryz.ntmps46
    go_wp2_with (first
      | (go_at_call 80; refine (cut_any _ _ hS.out).mono ?_; rintro e w' ⟨rfl, nd, rfl⟩)
      | (go_at_call 81; refine (HK.out _ (below_drewN ((Below.refl _ w).alloc (Nat.le_refl _) _) _)).mono ?_; rintro e w' ⟨rfl, rfl⟩))
    all_goals exact bodyPost_ret (v := .tuple #[.agg #[.int .i64 0, .string ⟨#[]⟩, .int .i64 0], .bool false]) (by simp [results, Tryz.results46, go_sem]) rfl ⟨rfl, by repeat' first | exact Below.refl _ _ | apply Below.drew | refine below_drewN ?_ _ | refine Below.setCell ?_ (by first | (simp; done) | (simp; omega)) _ | refine Below.alloc ?_ (by first | (simp; done) | (simp; omega)) _⟩
  | some k =>
    rw [hq] at ra HK
    simp only [kdRes, Option.map_some, Option.getD_some, Option.isSome_some] at HK
    simp only at ra
    have hbk : k ≠ .closed → ((k.num : Int) == 0) = false := fun h => by cases k <;> first | exact absurd rfl h | rfl
    by_cases hk : k = .closed
    · subst hk
      rw [if_pos rfl] at ra
      simp only [Kd.num] at HK
      by_cases hg : wordB (headOf (tailOf s)) = true ∧ 0 < countN (tailOf (tailOf s))
      · rw [if_pos hg] at ra
        rw [ra]
        have HP : Hid (∀ W, Calls Tryz.prog 82 #[.string (tailOf s)] W fun e w' => e = .returned (.tuple #[.agg #[.int .i64 0, .string (headOf (tailOf s)), .int .i64 (countN (tailOf (tailOf s)) : Int)], .bool true]) ∧ Below W.heap.size W w') := fun W => parseAdd_good (tailOf s) W hT hTH hTT hg.1 hg.2
        simp only [parseRes, Option.map_some, Option.getD_some, Option.isSome_some, Kd.num]
        clear ra hq hbk hg
        go_enter Tryz.func46, Tryz.ntmps46
        go_wp2_with (first
          | (go_at_call 80; refine (cut_any _ _ hS.out).mono ?_; rintro e w' ⟨rfl, nd, rfl⟩)
          | (go_at_call 81; refine (HK.out _ (below_drewN ((Below.refl _ w).alloc (Nat.le_refl _) _) _)).mono ?_; rintro e w' ⟨rfl, rfl⟩)
          | (go_at_call 82; refine (HP.out _).mono ?_; rintro e w1 ⟨rfl, hb⟩; obtain ⟨c0, f0⟩ := new_cellN w _ _ _ hb 0 _ rfl; obtain ⟨c1, f1⟩ := new_cellN w _ _ _ hb 1 _ rfl; obtain ⟨c2, f2⟩ := new_cellN w _ _ _ hb 2 _ rfl; have hB : Below w.heap.size w w1 := (below_drewN ((Below.refl _ w).alloc (Nat.le_refl _) _) _).trans (hb.mono (by simp)); clear hb))
        all_goals exact bodyPost_ret (v := .tuple #[.agg #[.int .i64 0, .string (headOf (tailOf s)), .int .i64 (countN (tailOf (tailOf s)) : Int)], .bool true]) (by simp [results, Tryz.results46, go_sem, c0, c1, c2]) rfl ⟨rfl, by repeat' first | exact hB | exact Below.refl _ _ | apply Below.drew | refine below_drewN ?_ _ | refine Below.setCell ?_ (by first | (simp; done) | (simp; omega)) _ | refine Below.alloc ?_ (by first | (simp; done) | (simp; omega)) _⟩
      · rw [if_neg hg] at ra
        rw [ra]
        have HP : Hid (∀ W, Calls Tryz.prog 82 #[.string (tailOf s)] W fun e w' => e = .returned (.tuple #[.agg #[.int .i64 0, .string ⟨#[]⟩, .int .i64 0], .bool false]) ∧ Below W.heap.size W w') := fun W => parseAdd_bad (tailOf s) W hT hTH hTT (by
          cases hw : wordB (headOf (tailOf s)) with
          | false => exact .inl rfl
          | true => exact .inr (by have : ¬ 0 < countN (tailOf (tailOf s)) := fun h => hg ⟨hw, h⟩; omega))
        simp only [parseRes, Option.map_none, Option.getD_none, Option.isSome_none]
        clear ra hq hbk hg
        go_enter Tryz.func46, Tryz.ntmps46
        go_wp2_with (first
          | (go_at_call 80; refine (cut_any _ _ hS.out).mono ?_; rintro e w' ⟨rfl, nd, rfl⟩)
          | (go_at_call 81; refine (HK.out _ (below_drewN ((Below.refl _ w).alloc (Nat.le_refl _) _) _)).mono ?_; rintro e w' ⟨rfl, rfl⟩)
          | (go_at_call 82; refine (HP.out _).mono ?_; rintro e w1 ⟨rfl, hb⟩; obtain ⟨c0, f0⟩ := new_cellN w _ _ _ hb 0 _ rfl; obtain ⟨c1, f1⟩ := new_cellN w _ _ _ hb 1 _ rfl; obtain ⟨c2, f2⟩ := new_cellN w _ _ _ hb 2 _ rfl; have hB : Below w.heap.size w w1 := (below_drewN ((Below.refl _ w).alloc (Nat.le_refl _) _) _).trans (hb.mono (by simp)); clear hb))
        all_goals exact bodyPost_ret (v := .tuple #[.agg #[.int .i64 0, .string ⟨#[]⟩, .int .i64 0], .bool false]) (by simp [results, Tryz.results46, go_sem, c0, c1, c2]) rfl ⟨rfl, by repeat' first | exact hB | exact Below.refl _ _ | apply Below.drew | refine below_drewN ?_ _ | refine Below.setCell ?_ (by first | (simp; done) | (simp; omega)) _ | refine Below.alloc ?_ (by first | (simp; done) | (simp; omega)) _⟩
    · rw [if_neg hk] at ra
      have hb0 := hbk hk
      clear hbk
      cases hw : wordB (tailOf s) with
      | true =>
        rw [if_pos hw] at ra
        rw [ra]
        have hw8 : (tailOf s).size ≤ 281474976710656 := by
          simp only [wordB, Bool.and_eq_true, decide_eq_true_eq] at hw; omega
        have HN : Hid (∀ W, Calls Tryz.prog 84 #[.int .i64 (k.num : Int), .string (tailOf s), .int .i64 0] W fun e w' => e = .returned (.agg #[.int .i64 (k.num : Int), .string (tailOf s), .int .i64 0]) ∧ Below W.heap.size W w') := fun W => newCommand_any k.num 0 _ W hw8
        have HW : Hid (∀ W, Calls Tryz.prog 83 #[.string (tailOf s)] W fun e w' => e = .returned (.bool true) ∧ w' = W) := fun W => by have := isWord_any (tailOf s) W hT.out; rwa [hw] at this
        simp only [parseRes, Option.map_some, Option.getD_some, Option.isSome_some]
        clear ra hq hw hw8
        generalize k.num = kn at *
        go_enter Tryz.func46, Tryz.ntmps46
        go_wp2_with (first
          | (go_at_call 80; refine (cut_any _ _ hS.out).mono ?_; rintro e w' ⟨rfl, nd, rfl⟩)
          | (go_at_call 81; refine (HK.out _ (below_drewN ((Below.refl _ w).alloc (Nat.le_refl _) _) _)).mono ?_; rintro e w' ⟨rfl, rfl⟩)
          | (go_at_call 83; refine (HW.out _).mono ?_; rintro e w' ⟨rfl, rfl⟩)
          | (go_at_call 84; refine (HN.out _).mono ?_; rintro e w1 ⟨rfl, hb⟩; obtain ⟨c0, f0⟩ := new_cellN w _ _ _ hb 0 _ rfl; obtain ⟨c1, f1⟩ := new_cellN w _ _ _ hb 1 _ rfl; obtain ⟨c2, f2⟩ := new_cellN w _ _ _ hb 2 _ rfl; have hB : Below w.heap.size w w1 := (below_drewN ((Below.refl _ w).alloc (Nat.le_refl _) _) _).trans (hb.mono (by simp)); clear hb))
        all_goals exact bodyPost_ret (v := .tuple #[.agg #[.int .i64 (kn : Int), .string (tailOf s), .int .i64 0], .bool true]) (by simp [results, Tryz.results46, go_sem, c0, c1, c2]) rfl ⟨rfl, by repeat' first | exact hB | exact Below.refl _ _ | apply Below.drew | refine below_drewN ?_ _ | refine Below.setCell ?_ (by first | (simp; done) | (simp; omega)) _ | refine Below.alloc ?_ (by first | (simp; done) | (simp; omega)) _⟩
      | false =>
        rw [if_neg (by rw [hw]; decide)] at ra
        rw [ra]
        have HW : Hid (∀ W, Calls Tryz.prog 83 #[.string (tailOf s)] W fun e w' => e = .returned (.bool false) ∧ w' = W) := fun W => by have := isWord_any (tailOf s) W hT.out; rwa [hw] at this
        simp only [parseRes, Option.map_none, Option.getD_none, Option.isSome_none]
        clear ra hq hw
        generalize k.num = kn at *
        go_enter Tryz.func46, Tryz.ntmps46
        go_wp2_with (first
          | (go_at_call 80; refine (cut_any _ _ hS.out).mono ?_; rintro e w' ⟨rfl, nd, rfl⟩)
          | (go_at_call 81; refine (HK.out _ (below_drewN ((Below.refl _ w).alloc (Nat.le_refl _) _) _)).mono ?_; rintro e w' ⟨rfl, rfl⟩)
          | (go_at_call 83; refine (HW.out _).mono ?_; rintro e w' ⟨rfl, rfl⟩))
        all_goals exact bodyPost_ret (v := .tuple #[.agg #[.int .i64 0, .string ⟨#[]⟩, .int .i64 0], .bool false]) (by simp [results, Tryz.results46, go_sem]) rfl ⟨rfl, by repeat' first | exact Below.refl _ _ | apply Below.drew | refine below_drewN ?_ _ | refine Below.setCell ?_ (by first | (simp; done) | (simp; omega)) _ | refine Below.alloc ?_ (by first | (simp; done) | (simp; omega)) _⟩

end Go.Proofs.YtckmppkdpnhodaaGreatDoor

namespace Go.Proofs.YtckmppkdpnhodaaGreatDoor
set_option linter.unusedVariables false
set_option linter.unusedSimpArgs false
open Go.RowKit Go.Proofs

attribute [local go_sem ↓] Go.wp_at_zero Go.wp_at_succ

set_option maxRecDepth 100000 in
set_option maxHeartbeats 2000000 in
theorem text_any (c : Cm) (hc : CmOk c) (w : World) (hv : VerbsAt w) :
    Calls Tryz.prog 100 #[.agg #[.int .i64 (c.k.num : Int), .string c.word, .int .i64 (c.count : Int)]] w fun e w' => e = .returned (.string (textOf c)) ∧ Below w.heap.size w w' := by
  have hw8 : c.word.size ≤ 8 := by
    have := hc.word
    simp only [wordB, Bool.and_eq_true, decide_eq_true_eq] at this; omega
  have hb6 : c.k.bs.size ≤ 6 := by cases c.k <;> decide
  have hb5 : c.k.num < 5 := c.k.num_lt
  have hcell : ∀ o, (w.alloc o).cell? ⟨0, c.k.num, none⟩ = some (.string c.k.bs) := fun o => cell_below ((Below.refl _ w).alloc (Nat.le_refl _) o) (hv c.k)
  have hcelld : ∀ o, (w.alloc o).drew.cell? ⟨0, c.k.num, none⟩ = some (.string c.k.bs) := hcell
  by_cases hk : c.k = .closed
  · have hcnt := (hc.add hk).2
    have HT : Hid (textOf c = c.k.bs ++ ⟨#[32]⟩ ++ c.word ++ (⟨#[32]⟩ ++ decN c.count)) := by show _ = _; simp only [textOf, if_pos hk]
    have HI : Hid (∀ W, Calls Tryz.prog 97 #[.int .i64 (c.count : Int)] W fun e w' => e = .returned (.string (decN c.count)) ∧ w' = W) := fun W => Tryz.strconv_Itoa_small c.count (by omega) W
    have hd2 : (decN c.count).size ≤ 2 := decN_size 1 c.count (by omega)
    have hn0 : c.k.num = 0 := by rw [hk]; rfl
    generalize c.k.num = kn at *
    subst hn0
    generalize c.k.bs = kb at *
    generalize c.count = cn at *
    generalize c.word = wd at *
    generalize decN cn = dn at *
    generalize textOf c = tx at *
    clear hk hc hv
    go_enter Tryz.func100, Tryz.ntmps100
    go_wp2_with (go_at_call 97; refine (HI.out _).mono ?_; rintro e w' ⟨rfl, hw'⟩; have hw'' := hw'.symm; clear hw'; subst hw'')
    go_region
    all_goals go_wp2_with (go_at_call 97; refine (HI.out _).mono ?_; rintro e w' ⟨rfl, hw'⟩; have hw'' := hw'.symm; clear hw'; subst hw'')
    all_goals go_ret
    all_goals exact ⟨by rw [HT.out]; rfl, ((Below.refl _ w).alloc (Nat.le_refl _) _).drew⟩
  · have HT : Hid (textOf c = c.k.bs ++ ⟨#[32]⟩ ++ c.word) := by show _ = _; simp only [textOf, if_neg hk, ByteArray.append_empty]
    have hn0 : ((c.k.num : Int) == 0) = false := by
      cases hkk : c.k <;> first | exact absurd hkk hk | rfl
    generalize c.k.num = kn at *
    generalize c.k.bs = kb at *
    generalize c.count = cn at *
    generalize c.word = wd at *
    generalize textOf c = tx at *
    clear hk hc hv
    have k0 : (0 : Int) ≤ (kn : Int) := by omega
    have k5 : (kn : Int) < 5 := by omega
    go_enter Tryz.func100, Tryz.ntmps100
    go_wp2
    go_region
    all_goals go_wp2
    all_goals go_ret
    all_goals exact ⟨by rw [HT.out]; rfl, ((Below.refl _ w).alloc (Nat.le_refl _) _).drew⟩

end Go.Proofs.YtckmppkdpnhodaaGreatDoor

namespace Go.Proofs.YtckmppkdpnhodaaGreatDoor
set_option linter.unusedVariables false
set_option linter.unusedSimpArgs false
open Go.RowKit Go.Proofs

end Go.Proofs.YtckmppkdpnhodaaGreatDoor

namespace Go.Proofs.YtckmppkdpnhodaaGreatDoor
set_option linter.unusedVariables false
set_option linter.unusedSimpArgs false
open Go.RowKit Go.Proofs

/-- How many commands of each replica. -/
structure Rc where
  a : Nat
  b : Nat
  c : Nat
  d : Nat
  e : Nat

def Rc.zero : Rc := ⟨0, 0, 0, 0, 0⟩
def Rc.join (x y : Rc) : Rc := ⟨max x.a y.a, max x.b y.b, max x.c y.c, max x.d y.d, max x.e y.e⟩
def Rc.get (x : Rc) (j : Nat) : Nat := if j = 0 then x.a else if j = 1 then x.b else if j = 2 then x.c else if j = 3 then x.d else if j = 4 then x.e else 0
def Rc.set (x : Rc) (j v : Nat) : Rc := ⟨if j = 0 then v else x.a, if j = 1 then v else x.b, if j = 2 then v else x.c, if j = 3 then v else x.d, if j = 4 then v else x.e⟩
/-- Is all that is in the second in the first too? -/
def Rc.covers (x y : Rc) : Bool := decide (y.a ≤ x.a) && decide (y.b ≤ x.b) && decide (y.c ≤ x.c) && decide (y.d ≤ x.d) && decide (y.e ≤ x.e)

theorem Rc.ext' {x y : Rc} (h : ∀ j, j < 5 → x.get j = y.get j) : x = y := by
  have h0 := h 0 (by omega)
  have h1 := h 1 (by omega)
  have h2 := h 2 (by omega)
  have h3 := h 3 (by omega)
  have h4 := h 4 (by omega)
  simp [Rc.get] at h0 h1 h2 h3 h4
  cases x; cases y; simp_all

theorem Rc.join_get (x y : Rc) (j : Nat) : (x.join y).get j = max (x.get j) (y.get j) := by
  unfold Rc.get Rc.join
  repeat (split; · rfl)
  rfl

theorem Rc.set_get (x : Rc) {j v i : Nat} (hj : j < 5) : (x.set j v).get i = if i = j then v else x.get i := by
  unfold Rc.get Rc.set
  by_cases e : i = j
  · subst e
    rcases (show i = 0 ∨ i = 1 ∨ i = 2 ∨ i = 3 ∨ i = 4 by omega) with rfl | rfl | rfl | rfl | rfl <;> simp
  · rw [if_neg e]
    by_cases h0 : i = 0
    · subst h0; simp [Ne.symm e]
    by_cases h1 : i = 1
    · subst h1; simp [Ne.symm e]
    by_cases h2 : i = 2
    · subst h2; simp [Ne.symm e]
    by_cases h3 : i = 3
    · subst h3; simp [Ne.symm e]
    by_cases h4 : i = 4
    · subst h4; simp [Ne.symm e]
    simp [h0, h1, h2, h3, h4]

theorem Rc.covers_iff (x y : Rc) : x.covers y = true ↔ ∀ j, y.get j ≤ x.get j := by
  unfold Rc.covers Rc.get
  simp only [Bool.and_eq_true, decide_eq_true_eq]
  constructor
  · rintro ⟨⟨⟨⟨h0, h1⟩, h2⟩, h3⟩, h4⟩ j
    repeat (split; · assumption)
    exact Nat.le_refl _
  · intro h
    have h0 := h 0
    have h1 := h 1
    have h2 := h 2
    have h3 := h 3
    have h4 := h 4
    simp at h0 h1 h2 h3 h4
    exact ⟨⟨⟨⟨h0, h1⟩, h2⟩, h3⟩, h4⟩

/-- The numbers of a reach are below a bound. -/
def Rc.lt (x : Rc) (m : Nat) : Prop := x.a < m ∧ x.b < m ∧ x.c < m ∧ x.d < m ∧ x.e < m

/-- An entry: whose command, the how manyth of that one, what was known where it was done, the command; in the bounds in which the code bears it. -/
structure En where
  org : Nat
  seq : Nat
  ah : Rc
  c : Cm
  ho : org < 5
  hs : seq < 1152921504606846976
  ha : ah.lt 1152921504606846976
  hc : CmOk c

def En.cells (x : En) : List Value :=
  [.int .i64 (x.org : Int), .int .i64 (x.seq : Int), .int .i64 (x.ah.a : Int), .int .i64 (x.ah.b : Int), .int .i64 (x.ah.c : Int), .int .i64 (x.ah.d : Int), .int .i64 (x.ah.e : Int), .int .i64 (x.c.k.num : Int), .string x.c.word, .int .i64 (x.c.count : Int)]

theorem En.cells_length (x : En) : x.cells.length = 10 := rfl

def En.val (x : En) : Value :=
  .agg #[.int .i64 (x.org : Int), .int .i64 (x.seq : Int), .int .i64 (x.ah.a : Int), .int .i64 (x.ah.b : Int), .int .i64 (x.ah.c : Int), .int .i64 (x.ah.d : Int), .int .i64 (x.ah.e : Int), .int .i64 (x.c.k.num : Int), .string x.c.word, .int .i64 (x.c.count : Int)]

/-- The cells of entries, one behind the other. -/
def enRow (log : List En) : List Value := log.flatMap En.cells

theorem flat_at {α β : Type} (f : α → List β) (s : Nat) (hs : ∀ x, (f x).length = s) : ∀ (l : List α) (i o : Nat) (hi : i < l.length), o < s → (l.flatMap f)[i * s + o]? = (f l[i])[o]?
  | [], i, o, h, _ => by simp at h
  | x :: l, 0, o, _, ho => by
    rw [List.flatMap_cons, Nat.zero_mul, Nat.zero_add, List.getElem?_append_left (by rw [hs]; exact ho)]
    rfl
  | x :: l, i + 1, o, h, ho => by
    rw [List.flatMap_cons, List.getElem?_append_right (by rw [hs, Nat.add_mul]; omega), hs, show (i + 1) * s + o - s = i * s + o by rw [Nat.add_mul]; omega]
    have := flat_at f s hs l i o (by simpa using h) ho
    simpa using this

theorem enRow_length (log : List En) : (enRow log).length = log.length * 10 := by
  unfold enRow
  induction log with
  | nil => rfl
  | cons x l ih => rw [List.flatMap_cons, List.length_append, ih, En.cells_length, List.length_cons]; omega

theorem enRow_get (log : List En) {i o : Nat} (hi : i < log.length) (ho : o < 10) : (enRow log)[i * 10 + o]? = log[i].cells[o]? := flat_at En.cells 10 En.cells_length log i o hi ho

theorem enRow_snoc (log : List En) (x : En) : enRow (log ++ [x]) = enRow log ++ x.cells := by simp [enRow]

/-- An entry's cells in memory. -/
theorem en_cells {w : World} {B : Nat} {ev : Value} {log : List En} (h : w.ownsRow B 122 10 ev log.length (enRow log)) {i : Nat} (hi : i < log.length) :
    ∃ g cap, ev = .slice (some ⟨g, 0, none⟩) log.length cap ∧ g < w.heap.size ∧ w.cell? ⟨g, i * 10, none⟩ = some (.int .i64 (log[i].org : Int)) ∧ w.cell? ⟨g, i * 10 + 1, none⟩ = some (.int .i64 (log[i].seq : Int)) ∧
      w.cell? ⟨g, i * 10 + 2, none⟩ = some (.int .i64 (log[i].ah.a : Int)) ∧ w.cell? ⟨g, i * 10 + 3, none⟩ = some (.int .i64 (log[i].ah.b : Int)) ∧ w.cell? ⟨g, i * 10 + 4, none⟩ = some (.int .i64 (log[i].ah.c : Int)) ∧ w.cell? ⟨g, i * 10 + 5, none⟩ = some (.int .i64 (log[i].ah.d : Int)) ∧ w.cell? ⟨g, i * 10 + 6, none⟩ = some (.int .i64 (log[i].ah.e : Int)) ∧
      w.cell? ⟨g, i * 10 + 7, none⟩ = some (.int .i64 (log[i].c.k.num : Int)) ∧ w.cell? ⟨g, i * 10 + 8, none⟩ = some (.string log[i].c.word) ∧ w.cell? ⟨g, i * 10 + 9, none⟩ = some (.int .i64 (log[i].c.count : Int)) := by
  obtain ⟨g, cap, hv, -, hg⟩ := h.form (by omega)
  have hc : ∀ o v, o < 10 → log[i].cells[o]? = some v → w.cell? ⟨g, i * 10 + o, none⟩ = some v := fun o v ho he => by
    have := h.cells (g := g) (by rw [hv]; rfl) (i * 10 + o) v (by rw [enRow_get log hi ho]; exact he)
    rwa [Addr.add_mid, Nat.zero_add] at this
  exact ⟨g, cap, hv, hg, hc 0 _ (by omega) rfl, hc 1 _ (by omega) rfl, hc 2 _ (by omega) rfl, hc 3 _ (by omega) rfl, hc 4 _ (by omega) rfl, hc 5 _ (by omega) rfl, hc 6 _ (by omega) rfl, hc 7 _ (by omega) rfl, hc 8 _ (by omega) rfl, hc 9 _ (by omega) rfl⟩

theorem own_form {w : World} {B : Nat} {e : TypeId} {s n : Nat} {v : Value} {xs : List Value} (h : w.ownsRow B e s v n xs) : ∃ p c, v = .slice p n c := by
  rcases h.2 with ⟨h1, h0⟩ | ⟨g, cap', _, h1, _⟩
  · rw [h0]; exact ⟨_, _, h1⟩
  · exact ⟨_, _, h1⟩

/-- What Known tells of the entries. -/
def opsRow (log : List En) : List Value := log.flatMap fun x => [.int .i64 (x.org : Int), .int .i64 (x.seq : Int), .string (textOf x.c)]

theorem opsRow_snoc (log : List En) (x : En) : opsRow (log ++ [x]) = opsRow log ++ [.int .i64 (x.org : Int), .int .i64 (x.seq : Int), .string (textOf x.c)] := by simp [opsRow]

end Go.Proofs.YtckmppkdpnhodaaGreatDoor
