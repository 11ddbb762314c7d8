/-
  Contract of cartelref.Read. The plain mathematics of cartelref.words: the words in order, each once. The plain mathematics of cartelref.View: the lines of a cart.
-/
import Derived.Test.YtckmppkdpnhodaaGreatDoorT08
import Derived.Deep.Draws
import Derived.Test.YtckmppkdpnhodaaGreatDoorT01
import Derived.Sort.Walk0
import Derived.Lib.ItoaNum
namespace Go.Proofs.YtckmppkdpnhodaaGreatDoor
set_option linter.unusedVariables false
set_option linter.unusedSimpArgs false
open Go.RowKit

theorem split_yes (s : ByteArray) (w : World) (hs : s.size ≤ maxLen) (h : blank s < s.size) :
    Calls Tryz.prog 74 #[.string s] w fun e w' => e = .returned (.tuple #[.string (s.extract 0 (blank s)), .string (s.extract (blank s + 1) s.size), .bool true]) ∧ w' = w.drew :=
  (split_both s w hs).mono fun e w' hr => by
    rcases hr with ⟨_, he, hw⟩ | ⟨h', _⟩
    · exact ⟨he, hw⟩
    · omega

theorem split_no (s : ByteArray) (w : World) (hs : s.size ≤ maxLen) (h : ¬ blank s < s.size) :
    Calls Tryz.prog 74 #[.string s] w fun e w' => e = .returned (.tuple #[.string s, .string ByteArray.empty, .bool false]) ∧ w' = w :=
  (split_both s w hs).mono fun e w' hr => by
    rcases hr with ⟨h', _⟩ | ⟨_, he, hw⟩
    · omega
    · exact ⟨he, hw⟩

/-- A text at its first blank. -/
def headOf (s : ByteArray) : ByteArray := if blank s < s.size then s.extract 0 (blank s) else s
def tailOf (s : ByteArray) : ByteArray := if blank s < s.size then s.extract (blank s + 1) s.size else ByteArray.empty
def hasBlank (s : ByteArray) : Bool := decide (blank s < s.size)

/-- The command that a text is, if it is one. -/
def readC (s : ByteArray) : Option Cm :=
  if hasBlank s = true ∧ wordB (headOf (tailOf s)) = true then
    if headOf s = (Kd.bs Go.Tcp.closed) then
      if hasBlank (tailOf s) = true ∧ 0 < countN (tailOf (tailOf s)) then some ⟨.closed, headOf (tailOf s), countN (tailOf (tailOf s))⟩ else none
    else if hasBlank (tailOf s) = true then none
    else if headOf s = (Kd.bs Go.Tcp.listen) then some ⟨.listen, headOf (tailOf s), 0⟩
    else if headOf s = (Kd.bs Go.Tcp.established) then some ⟨.established, headOf (tailOf s), 0⟩
    else if headOf s = (Kd.bs Go.Tcp.finWait) then some ⟨.finWait, headOf (tailOf s), 0⟩
    else if headOf s = (Kd.bs Go.Tcp.closeWait) then some ⟨.closeWait, headOf (tailOf s), 0⟩
    else none
  else none

/-- What split does, in one form: the world behind it has the same memory. -/
theorem split_any (s : ByteArray) (w : World) (hs : s.size ≤ maxLen) :
    Calls Tryz.prog 74 #[.string s] w fun e w' => e = .returned (.tuple #[.string (headOf s), .string (tailOf s), .bool (hasBlank s)]) ∧ ∃ n, w' = w.drewN n :=
  (split_both s w hs).mono fun e w' hr => by
    rcases hr with ⟨h', he, hw⟩ | ⟨h', he, hw⟩
    · refine ⟨?_, 1, hw⟩; simp [he, headOf, tailOf, hasBlank, h']
    · have h'' : ¬ blank s < s.size := by omega
      refine ⟨?_, 0, hw⟩; simp [he, headOf, tailOf, hasBlank, h'']

theorem tailOf_size (s : ByteArray) : (tailOf s).size ≤ s.size := by
  unfold tailOf; split
  · rw [ByteArray.size_extract]; omega
  · simp

theorem headOf_size (s : ByteArray) : (headOf s).size ≤ s.size := by
  unfold headOf; split
  · rw [ByteArray.size_extract]; omega
  · simp


section
variable (s : ByteArray) (w : World)

set_option maxRecDepth 100000 in
set_option maxHeartbeats 1000000 in
theorem read_no1 (hs : Hid (s.size ≤ maxLen)) (ht : Hid ((tailOf s).size ≤ maxLen)) (hh : Hid ((headOf (tailOf s)).size ≤ maxLen)) (h : hasBlank s = false) :
    Calls Tryz.prog 39 #[.string s] w fun e w' => (∃ (x y : ByteArray) (z : Int), e = .returned (.tuple #[.agg #[.string x, .string y, .int .i64 z], .bool false])) ∧ Below w.heap.size w w' := by
  go_enter Tryz.func39, Tryz.ntmps39
  go_wp2_with (first
    | (go_at_call 74; refine (split_any _ _ (by first | exact hs.out | exact ht.out)).mono ?_; rintro e w' ⟨rfl, nd, rfl⟩)
    | (go_at_call 75; refine (letters_any _ _ hh.out).mono ?_; rintro e w' ⟨rfl, rfl⟩)
    | (go_at_call 76; refine (count_any _ _ hl.out).mono ?_; rintro e w' ⟨rfl, rfl⟩))
  all_goals exact bodyPost_ret (v := .tuple #[.agg #[.string (headOf s), .string (headOf (tailOf s)), .int .i64 0], .bool false]) (by simp [results, Tryz.results39, go_sem]) rfl ⟨⟨_, _, _, rfl⟩, by repeat' first | exact Below.refl _ _ | apply Below.drew | refine below_drewN ?_ _ | refine Below.setCell ?_ (by first | (simp; done) | (simp; omega)) _ | refine Below.alloc ?_ (by first | (simp; done) | (simp; omega)) _⟩

set_option maxRecDepth 100000 in
set_option maxHeartbeats 1000000 in
theorem read_no2 (hs : Hid (s.size ≤ maxLen)) (ht : Hid ((tailOf s).size ≤ maxLen)) (hh : Hid ((headOf (tailOf s)).size ≤ maxLen)) (h : hasBlank s = true) (h2 : wordB (headOf (tailOf s)) = false) :
    Calls Tryz.prog 39 #[.string s] w fun e w' => (∃ (x y : ByteArray) (z : Int), e = .returned (.tuple #[.agg #[.string x, .string y, .int .i64 z], .bool false])) ∧ Below w.heap.size w w' := by
  go_enter Tryz.func39, Tryz.ntmps39
  go_wp2_with (first
    | (go_at_call 74; refine (split_any _ _ (by first | exact hs.out | exact ht.out)).mono ?_; rintro e w' ⟨rfl, nd, rfl⟩)
    | (go_at_call 75; refine (letters_any _ _ hh.out).mono ?_; rintro e w' ⟨rfl, rfl⟩)
    | (go_at_call 76; refine (count_any _ _ hl.out).mono ?_; rintro e w' ⟨rfl, rfl⟩))
  all_goals exact bodyPost_ret (v := .tuple #[.agg #[.string (headOf s), .string (headOf (tailOf s)), .int .i64 0], .bool false]) (by simp [results, Tryz.results39, go_sem]) rfl ⟨⟨_, _, _, rfl⟩, by repeat' first | exact Below.refl _ _ | apply Below.drew | refine below_drewN ?_ _ | refine Below.setCell ?_ (by first | (simp; done) | (simp; omega)) _ | refine Below.alloc ?_ (by first | (simp; done) | (simp; omega)) _⟩

set_option maxRecDepth 100000 in
set_option maxHeartbeats 1000000 in
theorem read_add (hs : Hid (s.size ≤ maxLen)) (ht : Hid ((tailOf s).size ≤ maxLen)) (hh : Hid ((headOf (tailOf s)).size ≤ maxLen)) (hl : Hid ((tailOf (tailOf s)).size ≤ maxLen)) (h1 : hasBlank s = true) (h2 : wordB (headOf (tailOf s)) = true) (h3 : ((headOf s).toList == [97, 100, 100]) = true) (h4 : hasBlank (tailOf s) = true) (h5 : 0 < countN (tailOf (tailOf s))) :
    Calls Tryz.prog 39 #[.string s] w fun e w' => e = .returned (.tuple #[.agg #[.string (headOf s), .string (headOf (tailOf s)), .int .i64 (countN (tailOf (tailOf s)) : Int)], .bool true]) ∧ Below w.heap.size w w' := by
  go_enter Tryz.func39, Tryz.ntmps39
  go_wp2_with (first
    | (go_at_call 74; refine (split_any _ _ (by first | exact hs.out | exact ht.out)).mono ?_; rintro e w' ⟨rfl, nd, rfl⟩)
    | (go_at_call 75; refine (letters_any _ _ hh.out).mono ?_; rintro e w' ⟨rfl, rfl⟩)
    | (go_at_call 76; refine (count_any _ _ hl.out).mono ?_; rintro e w' ⟨rfl, rfl⟩))
  go_region
  all_goals go_wp2
  all_goals exact bodyPost_ret (v := .tuple #[.agg #[.string (headOf s), .string (headOf (tailOf s)), .int .i64 (countN (tailOf (tailOf s)) : Int)], .bool true]) (by simp [results, Tryz.results39, go_sem]) rfl ⟨rfl, by repeat' first | exact Below.refl _ _ | apply Below.drew | refine below_drewN ?_ _ | refine Below.setCell ?_ (by first | (simp; done) | (simp; omega)) _ | refine Below.alloc ?_ (by first | (simp; done) | (simp; omega)) _⟩

set_option maxRecDepth 100000 in
set_option maxHeartbeats 1000000 in
theorem read_add0 (hs : Hid (s.size ≤ maxLen)) (ht : Hid ((tailOf s).size ≤ maxLen)) (hh : Hid ((headOf (tailOf s)).size ≤ maxLen)) (hl : Hid ((tailOf (tailOf s)).size ≤ maxLen)) (h1 : hasBlank s = true) (h2 : wordB (headOf (tailOf s)) = true) (h3 : ((headOf s).toList == [97, 100, 100]) = true) (h4 : hasBlank (tailOf s) = true) (h5 : countN (tailOf (tailOf s)) = 0) :
    Calls Tryz.prog 39 #[.string s] w fun e w' => (∃ (x y : ByteArray) (z : Int), e = .returned (.tuple #[.agg #[.string x, .string y, .int .i64 z], .bool false])) ∧ Below w.heap.size w w' := by
  go_enter Tryz.func39, Tryz.ntmps39
  go_wp2_with (first
    | (go_at_call 74; refine (split_any _ _ (by first | exact hs.out | exact ht.out)).mono ?_; rintro e w' ⟨rfl, nd, rfl⟩)
    | (go_at_call 75; refine (letters_any _ _ hh.out).mono ?_; rintro e w' ⟨rfl, rfl⟩)
    | (go_at_call 76; refine (count_any _ _ hl.out).mono ?_; rintro e w' ⟨rfl, rfl⟩))
  go_region
  all_goals go_wp2
  all_goals exact bodyPost_ret (v := .tuple #[.agg #[.string (headOf s), .string (headOf (tailOf s)), .int .i64 0], .bool false]) (by simp [results, Tryz.results39, go_sem]) rfl ⟨⟨_, _, _, rfl⟩, by repeat' first | exact Below.refl _ _ | apply Below.drew | refine below_drewN ?_ _ | refine Below.setCell ?_ (by first | (simp; done) | (simp; omega)) _ | refine Below.alloc ?_ (by first | (simp; done) | (simp; omega)) _⟩

set_option maxRecDepth 100000 in
set_option maxHeartbeats 1000000 in
theorem read_add1 (hs : Hid (s.size ≤ maxLen)) (ht : Hid ((tailOf s).size ≤ maxLen)) (hh : Hid ((headOf (tailOf s)).size ≤ maxLen)) (hl : Hid ((tailOf (tailOf s)).size ≤ maxLen)) (h1 : hasBlank s = true) (h2 : wordB (headOf (tailOf s)) = true) (h3 : ((headOf s).toList == [97, 100, 100]) = true) (h4 : hasBlank (tailOf s) = false) :
    Calls Tryz.prog 39 #[.string s] w fun e w' => (∃ (x y : ByteArray) (z : Int), e = .returned (.tuple #[.agg #[.string x, .string y, .int .i64 z], .bool false])) ∧ Below w.heap.size w w' := by
  go_enter Tryz.func39, Tryz.ntmps39
  go_wp2_with (first
    | (go_at_call 74; refine (split_any _ _ (by first | exact hs.out | exact ht.out)).mono ?_; rintro e w' ⟨rfl, nd, rfl⟩)
    | (go_at_call 75; refine (letters_any _ _ hh.out).mono ?_; rintro e w' ⟨rfl, rfl⟩)
    | (go_at_call 76; refine (count_any _ _ hl.out).mono ?_; rintro e w' ⟨rfl, rfl⟩))
  go_region
  all_goals go_wp2
  all_goals exact bodyPost_ret (v := .tuple #[.agg #[.string (headOf s), .string (headOf (tailOf s)), .int .i64 (countN (tailOf (tailOf s)) : Int)], .bool false]) (by simp [results, Tryz.results39, go_sem]) rfl ⟨⟨_, _, _, rfl⟩, by repeat' first | exact Below.refl _ _ | apply Below.drew | refine below_drewN ?_ _ | refine Below.setCell ?_ (by first | (simp; done) | (simp; omega)) _ | refine Below.alloc ?_ (by first | (simp; done) | (simp; omega)) _⟩

set_option maxRecDepth 100000 in
set_option maxHeartbeats 1000000 in
theorem read_more (hs : Hid (s.size ≤ maxLen)) (ht : Hid ((tailOf s).size ≤ maxLen)) (hh : Hid ((headOf (tailOf s)).size ≤ maxLen)) (h1 : hasBlank s = true) (h2 : wordB (headOf (tailOf s)) = true) (h3 : ((headOf s).toList == [97, 100, 100]) = false) (h4 : hasBlank (tailOf s) = true) :
    Calls Tryz.prog 39 #[.string s] w fun e w' => (∃ (x y : ByteArray) (z : Int), e = .returned (.tuple #[.agg #[.string x, .string y, .int .i64 z], .bool false])) ∧ Below w.heap.size w w' := by
  go_enter Tryz.func39, Tryz.ntmps39
  go_wp2_with (first
    | (go_at_call 74; refine (split_any _ _ (by first | exact hs.out | exact ht.out)).mono ?_; rintro e w' ⟨rfl, nd, rfl⟩)
    | (go_at_call 75; refine (letters_any _ _ hh.out).mono ?_; rintro e w' ⟨rfl, rfl⟩)
    | (go_at_call 76; refine (count_any _ _ hl.out).mono ?_; rintro e w' ⟨rfl, rfl⟩))
  all_goals exact bodyPost_ret (v := .tuple #[.agg #[.string (headOf s), .string (headOf (tailOf s)), .int .i64 0], .bool false]) (by simp [results, Tryz.results39, go_sem]) rfl ⟨⟨_, _, _, rfl⟩, by repeat' first | exact Below.refl _ _ | apply Below.drew | refine below_drewN ?_ _ | refine Below.setCell ?_ (by first | (simp; done) | (simp; omega)) _ | refine Below.alloc ?_ (by first | (simp; done) | (simp; omega)) _⟩

set_option maxRecDepth 100000 in
set_option maxHeartbeats 1000000 in
theorem read_remove (hs : Hid (s.size ≤ maxLen)) (ht : Hid ((tailOf s).size ≤ maxLen)) (hh : Hid ((headOf (tailOf s)).size ≤ maxLen)) (h1 : hasBlank s = true) (h2 : wordB (headOf (tailOf s)) = true) (h3 : ((headOf s).toList == [97, 100, 100]) = false) (h4 : hasBlank (tailOf s) = false) (h_remove : ((headOf s).toList == [114, 101, 109, 111, 118, 101]) = true) :
    Calls Tryz.prog 39 #[.string s] w fun e w' => e = .returned (.tuple #[.agg #[.string (headOf s), .string (headOf (tailOf s)), .int .i64 0], .bool true]) ∧ Below w.heap.size w w' := by
  go_enter Tryz.func39, Tryz.ntmps39
  go_wp2_with (first
    | (go_at_call 74; refine (split_any _ _ (by first | exact hs.out | exact ht.out)).mono ?_; rintro e w' ⟨rfl, nd, rfl⟩)
    | (go_at_call 75; refine (letters_any _ _ hh.out).mono ?_; rintro e w' ⟨rfl, rfl⟩)
    | (go_at_call 76; refine (count_any _ _ hl.out).mono ?_; rintro e w' ⟨rfl, rfl⟩))
  all_goals exact bodyPost_ret (v := .tuple #[.agg #[.string (headOf s), .string (headOf (tailOf s)), .int .i64 0], .bool true]) (by simp [results, Tryz.results39, go_sem]) rfl ⟨rfl, by repeat' first | exact Below.refl _ _ | apply Below.drew | refine below_drewN ?_ _ | refine Below.setCell ?_ (by first | (simp; done) | (simp; omega)) _ | refine Below.alloc ?_ (by first | (simp; done) | (simp; omega)) _⟩

set_option maxRecDepth 100000 in
set_option maxHeartbeats 1000000 in
theorem read_apply (hs : Hid (s.size ≤ maxLen)) (ht : Hid ((tailOf s).size ≤ maxLen)) (hh : Hid ((headOf (tailOf s)).size ≤ maxLen)) (h1 : hasBlank s = true) (h2 : wordB (headOf (tailOf s)) = true) (h3 : ((headOf s).toList == [97, 100, 100]) = false) (h4 : hasBlank (tailOf s) = false) (h_remove : ((headOf s).toList == [114, 101, 109, 111, 118, 101]) = false) (h_apply : ((headOf s).toList == [97, 112, 112, 108, 121]) = true) :
    Calls Tryz.prog 39 #[.string s] w fun e w' => e = .returned (.tuple #[.agg #[.string (headOf s), .string (headOf (tailOf s)), .int .i64 0], .bool true]) ∧ Below w.heap.size w w' := by
  go_enter Tryz.func39, Tryz.ntmps39
  go_wp2_with (first
    | (go_at_call 74; refine (split_any _ _ (by first | exact hs.out | exact ht.out)).mono ?_; rintro e w' ⟨rfl, nd, rfl⟩)
    | (go_at_call 75; refine (letters_any _ _ hh.out).mono ?_; rintro e w' ⟨rfl, rfl⟩)
    | (go_at_call 76; refine (count_any _ _ hl.out).mono ?_; rintro e w' ⟨rfl, rfl⟩))
  all_goals exact bodyPost_ret (v := .tuple #[.agg #[.string (headOf s), .string (headOf (tailOf s)), .int .i64 0], .bool true]) (by simp [results, Tryz.results39, go_sem]) rfl ⟨rfl, by repeat' first | exact Below.refl _ _ | apply Below.drew | refine below_drewN ?_ _ | refine Below.setCell ?_ (by first | (simp; done) | (simp; omega)) _ | refine Below.alloc ?_ (by first | (simp; done) | (simp; omega)) _⟩

set_option maxRecDepth 100000 in
set_option maxHeartbeats 1000000 in
theorem read_revoke (hs : Hid (s.size ≤ maxLen)) (ht : Hid ((tailOf s).size ≤ maxLen)) (hh : Hid ((headOf (tailOf s)).size ≤ maxLen)) (h1 : hasBlank s = true) (h2 : wordB (headOf (tailOf s)) = true) (h3 : ((headOf s).toList == [97, 100, 100]) = false) (h4 : hasBlank (tailOf s) = false) (h_remove : ((headOf s).toList == [114, 101, 109, 111, 118, 101]) = false) (h_apply : ((headOf s).toList == [97, 112, 112, 108, 121]) = false) (h_revoke : ((headOf s).toList == [114, 101, 118, 111, 107, 101]) = true) :
    Calls Tryz.prog 39 #[.string s] w fun e w' => e = .returned (.tuple #[.agg #[.string (headOf s), .string (headOf (tailOf s)), .int .i64 0], .bool true]) ∧ Below w.heap.size w w' := by
  go_enter Tryz.func39, Tryz.ntmps39
  go_wp2_with (first
    | (go_at_call 74; refine (split_any _ _ (by first | exact hs.out | exact ht.out)).mono ?_; rintro e w' ⟨rfl, nd, rfl⟩)
    | (go_at_call 75; refine (letters_any _ _ hh.out).mono ?_; rintro e w' ⟨rfl, rfl⟩)
    | (go_at_call 76; refine (count_any _ _ hl.out).mono ?_; rintro e w' ⟨rfl, rfl⟩))
  all_goals exact bodyPost_ret (v := .tuple #[.agg #[.string (headOf s), .string (headOf (tailOf s)), .int .i64 0], .bool true]) (by simp [results, Tryz.results39, go_sem]) rfl ⟨rfl, by repeat' first | exact Below.refl _ _ | apply Below.drew | refine below_drewN ?_ _ | refine Below.setCell ?_ (by first | (simp; done) | (simp; omega)) _ | refine Below.alloc ?_ (by first | (simp; done) | (simp; omega)) _⟩

set_option maxRecDepth 100000 in
set_option maxHeartbeats 1000000 in
theorem read_note (hs : Hid (s.size ≤ maxLen)) (ht : Hid ((tailOf s).size ≤ maxLen)) (hh : Hid ((headOf (tailOf s)).size ≤ maxLen)) (h1 : hasBlank s = true) (h2 : wordB (headOf (tailOf s)) = true) (h3 : ((headOf s).toList == [97, 100, 100]) = false) (h4 : hasBlank (tailOf s) = false) (h_remove : ((headOf s).toList == [114, 101, 109, 111, 118, 101]) = false) (h_apply : ((headOf s).toList == [97, 112, 112, 108, 121]) = false) (h_revoke : ((headOf s).toList == [114, 101, 118, 111, 107, 101]) = false) (h_note : ((headOf s).toList == [110, 111, 116, 101]) = true) :
    Calls Tryz.prog 39 #[.string s] w fun e w' => e = .returned (.tuple #[.agg #[.string (headOf s), .string (headOf (tailOf s)), .int .i64 0], .bool true]) ∧ Below w.heap.size w w' := by
  go_enter Tryz.func39, Tryz.ntmps39
  go_wp2_with (first
    | (go_at_call 74; refine (split_any _ _ (by first | exact hs.out | exact ht.out)).mono ?_; rintro e w' ⟨rfl, nd, rfl⟩)
    | (go_at_call 75; refine (letters_any _ _ hh.out).mono ?_; rintro e w' ⟨rfl, rfl⟩)
    | (go_at_call 76; refine (count_any _ _ hl.out).mono ?_; rintro e w' ⟨rfl, rfl⟩))
  all_goals exact bodyPost_ret (v := .tuple #[.agg #[.string (headOf s), .string (headOf (tailOf s)), .int .i64 0], .bool true]) (by simp [results, Tryz.results39, go_sem]) rfl ⟨rfl, by repeat' first | exact Below.refl _ _ | apply Below.drew | refine below_drewN ?_ _ | refine Below.setCell ?_ (by first | (simp; done) | (simp; omega)) _ | refine Below.alloc ?_ (by first | (simp; done) | (simp; omega)) _⟩

set_option maxRecDepth 100000 in
set_option maxHeartbeats 1000000 in
theorem read_none (hs : Hid (s.size ≤ maxLen)) (ht : Hid ((tailOf s).size ≤ maxLen)) (hh : Hid ((headOf (tailOf s)).size ≤ maxLen)) (h1 : hasBlank s = true) (h2 : wordB (headOf (tailOf s)) = true) (h3 : ((headOf s).toList == [97, 100, 100]) = false) (h4 : hasBlank (tailOf s) = false) (h_remove : ((headOf s).toList == [114, 101, 109, 111, 118, 101]) = false) (h_apply : ((headOf s).toList == [97, 112, 112, 108, 121]) = false) (h_revoke : ((headOf s).toList == [114, 101, 118, 111, 107, 101]) = false) (h_note : ((headOf s).toList == [110, 111, 116, 101]) = false) :
    Calls Tryz.prog 39 #[.string s] w fun e w' => (∃ (x y : ByteArray) (z : Int), e = .returned (.tuple #[.agg #[.string x, .string y, .int .i64 z], .bool false])) ∧ Below w.heap.size w w' := by
  go_enter Tryz.func39, Tryz.ntmps39
  go_wp2_with (first
    | (go_at_call 74; refine (split_any _ _ (by first | exact hs.out | exact ht.out)).mono ?_; rintro e w' ⟨rfl, nd, rfl⟩)
    | (go_at_call 75; refine (letters_any _ _ hh.out).mono ?_; rintro e w' ⟨rfl, rfl⟩)
    | (go_at_call 76; refine (count_any _ _ hl.out).mono ?_; rintro e w' ⟨rfl, rfl⟩))
  all_goals exact bodyPost_ret (v := .tuple #[.agg #[.string (headOf s), .string (headOf (tailOf s)), .int .i64 0], .bool false]) (by simp [results, Tryz.results39, go_sem]) rfl ⟨⟨_, _, _, rfl⟩, by repeat' first | exact Below.refl _ _ | apply Below.drew | refine below_drewN ?_ _ | refine Below.setCell ?_ (by first | (simp; done) | (simp; omega)) _ | refine Below.alloc ?_ (by first | (simp; done) | (simp; omega)) _⟩

end
end Go.Proofs.YtckmppkdpnhodaaGreatDoor

namespace Go.Proofs.YtckmppkdpnhodaaGreatDoor
set_option linter.unusedVariables false
set_option linter.unusedSimpArgs false
open Go.RowKit Go.Proofs

abbrev Wd := List UInt8

theorem wd_trans {a b c : Wd} (h : a < b) (k : b < c) : a < c := List.lt_trans h k
theorem wd_irrefl (a : Wd) : ¬ a < a := List.lt_irrefl a
theorem wd_tri {a b : Wd} (h : ¬ a < b) (k : ¬ b < a) : a = b := List.le_antisymm (List.not_lt.1 k) (List.not_lt.1 h)
theorem wd_asymm {a b : Wd} (h : a < b) : ¬ b < a := fun k => wd_irrefl _ (wd_trans h k)
theorem wd_le_lt {a b c : Wd} (h : ¬ b < a) (k : b < c) : a < c := by
  by_cases e : a < b
  · exact wd_trans e k
  · rw [wd_tri e h]; exact k
theorem wd_nil {a : Wd} : ¬ a < [] := by simp
theorem wd_pos {a : Wd} (h : a ≠ []) : [] < a := by
  cases a with
  | nil => exact absurd rfl h
  | cons x l => simp

/-- The smallest of some words that is greater than 'last'; empty: there is none. -/
def Best (ws : List Wd) (last best : Wd) : Prop :=
  (best = [] ∧ ∀ x ∈ ws, ¬ last < x) ∨ (last < best ∧ best ∈ ws ∧ ∀ x ∈ ws, last < x → ¬ x < best)

theorem Best.nil (last : Wd) : Best [] last [] := .inl ⟨rfl, fun _ h => by cases h⟩

theorem Best.skip {ws : List Wd} {last best x : Wd} (h : Best ws last best) (hx : ¬ last < x) : Best (ws ++ [x]) last best := by
  rcases h with ⟨rfl, h⟩ | ⟨h1, h2, h3⟩
  · refine .inl ⟨rfl, fun y hy => ?_⟩
    rcases List.mem_append.1 hy with hy | hy
    · exact h y hy
    · obtain rfl := List.mem_singleton.1 hy; exact hx
  · refine .inr ⟨h1, List.mem_append_left _ h2, fun y hy => ?_⟩
    rcases List.mem_append.1 hy with hy | hy
    · exact h3 y hy
    · obtain rfl := List.mem_singleton.1 hy; exact fun k => absurd k hx

theorem Best.stay {ws : List Wd} {last best x : Wd} (h : Best ws last best) (hb : best ≠ []) (hx : ¬ x < best) : Best (ws ++ [x]) last best := by
  rcases h with ⟨rfl, h⟩ | ⟨h1, h2, h3⟩
  · exact absurd rfl hb
  · refine .inr ⟨h1, List.mem_append_left _ h2, fun y hy => ?_⟩
    rcases List.mem_append.1 hy with hy | hy
    · exact h3 y hy
    · obtain rfl := List.mem_singleton.1 hy; exact fun _ => hx

theorem Best.take {ws : List Wd} {last best x : Wd} (h : Best ws last best) (hl : last < x) (hb : best = [] ∨ x < best) : Best (ws ++ [x]) last x := by
  refine .inr ⟨hl, by simp, fun y hy hly => ?_⟩
  rcases List.mem_append.1 hy with hy | hy
  · rcases h with ⟨rfl, h⟩ | ⟨h1, h2, h3⟩
    · exact absurd hly (h y hy)
    · rcases hb with rfl | hb
      · exact absurd h1 wd_nil
      · exact fun k => h3 y hy hly (wd_trans k hb)
  · obtain rfl := List.mem_singleton.1 hy; exact wd_irrefl _

/-- The words so far. -/
structure WInv (ws out : List Wd) (last : Wd) : Prop where
  sorted : out.Pairwise (· < ·)
  sub : ∀ x ∈ out, x ∈ ws ∧ ¬ last < x
  all : ∀ x ∈ ws, ¬ last < x → x ∈ out

theorem WInv.start {ws : List Wd} (h : ∀ x ∈ ws, x ≠ []) : WInv ws [] [] :=
  ⟨List.Pairwise.nil, fun _ h => (by cases h), fun x hx k => absurd (wd_pos (h x hx)) k⟩

theorem WInv.step {ws out : List Wd} {last best : Wd} (h : WInv ws out last) (hb : Best ws last best) (hne : best ≠ []) : WInv ws (out ++ [best]) best := by
  rcases hb with ⟨rfl, _⟩ | ⟨h1, h2, h3⟩
  · exact absurd rfl hne
  refine ⟨?_, ?_, ?_⟩
  · rw [List.pairwise_append]
    refine ⟨h.sorted, List.pairwise_singleton _ _, fun a ha b hb => ?_⟩
    obtain rfl := List.mem_singleton.1 hb
    exact wd_le_lt (h.sub a ha).2 h1
  · intro x hx
    rcases List.mem_append.1 hx with hx | hx
    · exact ⟨(h.sub x hx).1, fun k => (h.sub x hx).2 (wd_trans h1 k)⟩
    · obtain rfl := List.mem_singleton.1 hx; exact ⟨h2, wd_irrefl _⟩
  · intro x hx k
    by_cases hl : last < x
    · have := wd_tri (h3 x hx hl) k
      rw [this]; simp
    · exact List.mem_append_left _ (h.all x hx hl)

theorem WInv.done {ws out : List Wd} {last : Wd} (h : WInv ws out last) (hb : Best ws last []) : ∀ x, x ∈ out ↔ x ∈ ws := by
  intro x
  refine ⟨fun hx => (h.sub x hx).1, fun hx => h.all x hx ?_⟩
  rcases hb with ⟨_, hb⟩ | ⟨h1, _⟩
  · exact hb x hx
  · exact absurd h1 wd_nil

/-- How many are still to come. -/
def toCome (ws : List Wd) (last : Wd) : Nat := (ws.filter fun x => decide (last < x)).length

theorem toCome_le (ws : List Wd) (last : Wd) : toCome ws last ≤ ws.length := List.length_filter_le _ _

theorem filter_len_le {α : Type} {p q : α → Bool} : ∀ (l : List α), (∀ x ∈ l, p x = true → q x = true) → (l.filter p).length ≤ (l.filter q).length
  | [], _ => by simp
  | a :: l, h => by
    have ih := filter_len_le l (fun x hx => h x (List.mem_cons_of_mem _ hx))
    have ha := h a (List.mem_cons_self ..)
    cases hp : p a <;> cases hq : q a <;> simp_all
    omega

theorem filter_len_lt {α : Type} {p q : α → Bool} : ∀ (l : List α), (∀ x ∈ l, p x = true → q x = true) → (∃ x ∈ l, p x = false ∧ q x = true) → (l.filter p).length < (l.filter q).length
  | [], _, h => by obtain ⟨_, h, _⟩ := h; cases h
  | a :: l, h, ⟨x, hx, hpx, hqx⟩ => by
    have hle := filter_len_le l (fun x hx => h x (List.mem_cons_of_mem _ hx))
    rcases List.mem_cons.1 hx with rfl | hx
    · simp [List.filter_cons, hpx, hqx]; omega
    · have ih := filter_len_lt l (fun x hx => h x (List.mem_cons_of_mem _ hx)) ⟨x, hx, hpx, hqx⟩
      have ha := h a (List.mem_cons_self ..)
      cases hp : p a <;> cases hq : q a <;> simp_all
      omega

theorem toCome_lt {ws : List Wd} {last best : Wd} (hb : Best ws last best) (hne : best ≠ []) : toCome ws best < toCome ws last := by
  rcases hb with ⟨rfl, _⟩ | ⟨h1, h2, h3⟩
  · exact absurd rfl hne
  · exact filter_len_lt ws (fun x _ hx => by simp at hx ⊢; exact wd_trans h1 hx) ⟨best, h2, by simp, by simpa using h1⟩

def strOf : Value → Wd | .string s => s.toList | _ => []

theorem less_of {a b : Wd} (h : a < b) : Op.bytesLess a b = true := by rw [bytesLess_eq]; simpa using h
theorem not_less_of {a b : Wd} (h : ¬ a < b) : Op.bytesLess a b = false := by rw [bytesLess_eq]; simpa using h

end Go.Proofs.YtckmppkdpnhodaaGreatDoor

namespace Go.Proofs.YtckmppkdpnhodaaGreatDoor
set_option linter.unusedVariables false
set_option linter.unusedSimpArgs false
open Go.RowKit Go.Proofs

/-- A number in decimal digits. -/
def decN (n : Nat) : ByteArray := ⟨(Lib.decDigits n).toArray⟩

def itemW : List UInt8 := [105, 116, 101, 109, 32]
def couponW : List UInt8 := [99, 111, 117, 112, 111, 110, 32]
def noteW : List UInt8 := [110, 111, 116, 101, 32]

def itemLine (tr : List Dn) (known : List Nat) (x : ByteArray) : List UInt8 :=
  if 0 < numberN tr known x then itemW ++ x.data.toList ++ [32] ++ (decN (numberN tr known x)).data.toList ++ [10] else []

def kindLine (tr : List Dn) (known : List Nat) (k : Kd) (name : List UInt8) (x : ByteArray) : List UInt8 :=
  if hasB tr known k x = true then name ++ x.data.toList ++ [10] else []

def nameOf : Kd → List UInt8
  | .established => couponW
  | _ => noteW

def kindOfN (j : Nat) : Kd := if j = 0 then .established else .closeWait

def viewL (tr : List Dn) (known : List Nat) (out : List ByteArray) : List UInt8 :=
  out.flatMap (itemLine tr known) ++ out.flatMap (kindLine tr known .established couponW) ++ out.flatMap (kindLine tr known .closeWait noteW)

theorem flatMap_snoc {α β : Type} (l : List α) (k : Nat) (h : k < l.length) (f : α → List β) : (l.take (k + 1)).flatMap f = (l.take k).flatMap f ++ f l[k] := by
  rw [take_snoc' l k h, List.flatMap_append, List.flatMap_cons, List.flatMap_nil, List.append_nil]

theorem numberN_le (tr : List Dn) (known : List Nat) (x : ByteArray) : numberN tr known x ≤ 999 := by unfold numberN; omega

theorem decN_small {n : Nat} (h : n < 10) : decN n = ⟨#[UInt8.ofNat (48 + n)]⟩ := by
  unfold decN; rw [Lib.decDigits, dif_pos h]

theorem decN_big {n : Nat} (h : ¬ n < 10) : decN n = decN (n / 10) ++ ⟨#[UInt8.ofNat (48 + n % 10)]⟩ := by
  unfold decN; rw [Lib.decDigits, dif_neg h]
  apply ByteArray.ext
  simp [ByteArray.data_append]

theorem decN_size : ∀ (k n : Nat), n < 10 ^ (k + 1) → (decN n).size ≤ k + 1
  | 0, n, h => by rw [decN_small (by simpa using h)]; simp [ByteArray.size]
  | k + 1, n, h => by
    by_cases h1 : n < 10
    · rw [decN_small h1]; simp [ByteArray.size]
    · rw [decN_big h1, ByteArray.size_append]
      have := decN_size k (n / 10) (by rw [Nat.pow_succ] at h; omega)
      have e : (ByteArray.mk #[UInt8.ofNat (48 + n % 10)]).size = 1 := rfl
      omega

end Go.Proofs.YtckmppkdpnhodaaGreatDoor
