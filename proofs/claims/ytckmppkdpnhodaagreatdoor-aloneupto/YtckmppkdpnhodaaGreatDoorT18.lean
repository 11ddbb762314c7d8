/-
  The plain mathematics of the text of a command: what was read is what it is written as. (*World).step for the kinds Do, View, Known. plays and Alone, over whatever holds of the world between the steps (I), which every step keeps.
-/
import Derived.Test.YtckmppkdpnhodaaGreatDoorT14
import Derived.Test.YtckmppkdpnhodaaGreatDoorT02
import Derived.Deep.QuietTactic
import Derived.BigQuiet
namespace Go.Proofs.YtckmppkdpnhodaaGreatDoor
set_option linter.unusedVariables false
set_option linter.unusedSimpArgs false
open Go.RowKit Go.Proofs

theorem u8_back {a : UInt8} (h : 48 ≤ a.toNat) : UInt8.ofNat (48 + (a.toNat - 48)) = a := by
  have : 48 + (a.toNat - 48) = a.toNat := by omega
  rw [this]; simp

theorem countGo_text : ∀ (l : List UInt8) (c : Nat), countGo l 0 = c → 0 < c → l = (decN c).data.toList
  | [], c, h, h0 => by simp [countGo] at h; omega
  | [a], c, h, h0 => by
    simp only [countGo] at h
    split at h
    · omega
    split at h
    · omega
    have hc : c = a.toNat - 48 := by omega
    have ha : 48 ≤ a.toNat := by omega
    rw [decN_small (by omega), hc, u8_back ha]
  | [a, b], c, h, h0 => by
    simp only [countGo] at h
    split at h
    · omega
    split at h
    · omega
    split at h
    · omega
    split at h
    · omega
    have ha : 48 ≤ a.toNat := by omega
    have hb : 48 ≤ b.toNat := by omega
    have h1 : c / 10 = a.toNat - 48 := by omega
    have h2 : c % 10 = b.toNat - 48 := by omega
    rw [decN_big (by omega), decN_small (by omega), h1, h2, u8_back ha, u8_back hb]
    simp [ByteArray.data_append]
  | a :: b :: e :: r, c, h, h0 => by
    simp only [countGo] at h
    split at h
    · omega
    split at h
    · omega
    split at h
    · omega
    split at h
    · omega
    split at h
    · omega
    split at h
    · omega
    omega

theorem blank_is {s : ByteArray} (h : blank s < s.size) : s[blank s] = 32 := by
  have hk : s.data.toList.findIdx (· == 32) < s.data.toList.length := by simpa [blank] using h
  have := List.findIdx_getElem (p := (· == 32)) (xs := s.data.toList) (w := hk)
  have h3 : s.data.toList[s.data.toList.findIdx (· == 32)]'hk = 32 := by simpa using this
  exact h3

theorem at_blank {s : ByteArray} (h : blank s < s.size) : headOf s ++ ⟨#[32]⟩ ++ tailOf s = s := by
  unfold headOf tailOf
  rw [if_pos h, if_pos h]
  have hd : s.data[blank s]'h = 32 := blank_is h
  apply ByteArray.ext
  apply Array.toList_inj.1
  simp only [ByteArray.data_append, ByteArray.data_extract, Array.toList_append, Array.toList_extract, List.extract_eq_take_drop, List.drop_zero, Nat.sub_zero]
  have e : s.data.toList = s.data.toList.take (blank s) ++ ([32] ++ s.data.toList.drop (blank s + 1)) := by
    have := List.take_append_drop (blank s) s.data.toList
    conv => lhs; rw [← this]
    congr 1
    rw [List.drop_eq_getElem_cons (by simpa using h)]
    simp [hd]
  conv => rhs; rw [e]
  rw [List.append_assoc]
  congr 2
  rw [List.take_of_length_le (by rw [List.length_drop, Array.length_toList]; exact Nat.le_refl _)]

theorem read_parts {s : ByteArray} {cm : Cm} (h : readC s = some cm) : CmOk cm ∧ textOf cm = s := by
  unfold readC at h
  split at h
  case isFalse => cases h
  case isTrue h1 =>
    obtain ⟨hb, hw⟩ := h1
    simp only [hasBlank, decide_eq_true_eq] at hb
    have hs := at_blank hb
    split at h
    case isTrue h2 =>
      split at h
      case isFalse => cases h
      case isTrue h3 =>
        obtain ⟨hb2, hc⟩ := h3
        simp only [hasBlank, decide_eq_true_eq] at hb2
        have hs2 := at_blank hb2
        have hd := countGo_text _ _ rfl hc
        have hd' : decN (countN (tailOf (tailOf s))) = tailOf (tailOf s) := ByteArray.ext (Array.toList_inj.1 hd.symm)
        simp only [Option.some.injEq] at h
        subst h
        refine ⟨⟨hw, fun _ => ⟨hc, countGo_le _ 0 (by omega)⟩, fun h => absurd rfl h⟩, ?_⟩
        simp only [textOf, if_pos]
        rw [hd', ← h2]
        conv => rhs; rw [← hs, ← hs2]
        simp only [ByteArray.append_assoc]
    case isFalse h2 =>
      split at h
      case isTrue => cases h
      case isFalse h3 =>
        have hb2 : ¬ blank (tailOf s) < (tailOf s).size := by simpa [hasBlank] using h3
        have ht : headOf (tailOf s) = tailOf s := by unfold headOf; rw [if_neg hb2]
        have fin : ∀ k : Kd, k ≠ .closed → headOf s = k.bs → CmOk ⟨k, headOf (tailOf s), 0⟩ ∧ textOf ⟨k, headOf (tailOf s), 0⟩ = s := fun k hk hh => by
          refine ⟨⟨hw, fun e => absurd e hk, fun _ => rfl⟩, ?_⟩
          simp only [textOf, if_neg hk, ht, ByteArray.append_empty]
          rw [← hh]; exact hs
        split at h
        case isTrue h4 => simp only [Option.some.injEq] at h; subst h; exact fin .listen (by decide) h4
        case isFalse =>
        split at h
        case isTrue h4 => simp only [Option.some.injEq] at h; subst h; exact fin .established (by decide) h4
        case isFalse =>
        split at h
        case isTrue h4 => simp only [Option.some.injEq] at h; subst h; exact fin .finWait (by decide) h4
        case isFalse =>
        split at h
        case isTrue h4 => simp only [Option.some.injEq] at h; subst h; exact fin .closeWait (by decide) h4
        case isFalse => cases h

end Go.Proofs.YtckmppkdpnhodaaGreatDoor

namespace Go.Proofs.YtckmppkdpnhodaaGreatDoor
set_option linter.unusedVariables false
set_option linter.unusedSimpArgs false
open Go.RowKit

set_option maxRecDepth 100000 in
set_option maxHeartbeats 1000000 in
theorem step_do {w : World} {wb n : Nat} {K A B C : Int} {S : ByteArray} (hn : 2 ≤ n ∧ n ≤ 5) (r0 : w.cell? ⟨wb, 0, none⟩ = some (.int .i64 (n : Int))) (hK : -9223372036854775808 ≤ K ∧ K ≤ 9223372036854775807) (hA : -9223372036854775808 ≤ A ∧ A ≤ 9223372036854775807) (hk : pickN K 12 = 0)
    (X : World → Prop) (hC : ∀ W, Below w.heap.size w W → Calls Tryz.prog 16 #[.pointer (some ⟨wb, 0, none⟩), .int .i64 (pickN A n : Int), .string S] W fun e w' => e = .returned (.bool true) ∧ X w') :
    Calls Tryz.prog 15 #[.pointer (some ⟨wb, 0, none⟩), .agg #[.int .i64 K, .int .i64 A, .int .i64 B, .int .i64 C, .string S]] w fun e w' => e = .returned (.bool true) ∧ X w' := by
  have HC : Hid (∀ W, Below w.heap.size w W → Calls Tryz.prog 16 #[.pointer (some ⟨wb, 0, none⟩), .int .i64 (pickN A n : Int), .string S] W fun e w' => e = .returned (.bool true) ∧ X w') := hC
  have HP1 : Hid (∀ W, Calls Tryz.prog 32 #[.int .i64 A, .int .i64 (n : Int)] W fun e w' => e = .returned (.int .i64 (pickN A n : Int)) ∧ w' = W) := fun W => pick_any A n W hA (by omega)
  have HP2 : Hid (∀ W, Calls Tryz.prog 32 #[.int .i64 K, .int .i64 12] W fun e w' => e = .returned (.int .i64 0) ∧ w' = W) := fun W => by
    have := pick_any K 12 W hK (by omega)
    rw [hk] at this
    exact this
  have hwl := World.block_lt_of_cell? w _ r0
  clear hC hK hA hk
  generalize pickN A n = kk at *
  go_enter Tryz.func15, Tryz.ntmps15
  go_wp2_with fail
  go_quiet ((go_at_call 32; exact Calls.quiet_of_same (HP1.out _)))
  go_wp2_with (first
    | (go_at_call 32; refine (HP2.out _).mono ?_; rintro e w' ⟨rfl, rfl⟩)
    | (go_at_call 16; refine (HC.out _ (by first | exact below_drewN ((Below.refl _ _).alloc (Nat.le_refl _) _) _ | exact (Below.refl _ _).alloc (Nat.le_refl _) _)).mono ?_; rintro e w9 ⟨rfl, hx⟩))
  go_ret
  exact ⟨rfl, hx⟩

set_option maxRecDepth 100000 in
set_option maxHeartbeats 1000000 in
theorem step_view {w : World} {wb n : Nat} {K A B C : Int} {S : ByteArray} (hn : 2 ≤ n ∧ n ≤ 5) (r0 : w.cell? ⟨wb, 0, none⟩ = some (.int .i64 (n : Int))) (hK : -9223372036854775808 ≤ K ∧ K ≤ 9223372036854775807) (hA : -9223372036854775808 ≤ A ∧ A ≤ 9223372036854775807) (hk : pickN K 12 = 1)
    (X : World → Prop) (hC : ∀ W, Below w.heap.size w W → Calls Tryz.prog 33 #[.pointer (some ⟨wb, 0, none⟩), .int .i64 (pickN A n : Int)] W fun e w' => e = .returned (.bool true) ∧ X w') :
    Calls Tryz.prog 15 #[.pointer (some ⟨wb, 0, none⟩), .agg #[.int .i64 K, .int .i64 A, .int .i64 B, .int .i64 C, .string S]] w fun e w' => e = .returned (.bool true) ∧ X w' := by
  have HC : Hid (∀ W, Below w.heap.size w W → Calls Tryz.prog 33 #[.pointer (some ⟨wb, 0, none⟩), .int .i64 (pickN A n : Int)] W fun e w' => e = .returned (.bool true) ∧ X w') := hC
  have HP1 : Hid (∀ W, Calls Tryz.prog 32 #[.int .i64 A, .int .i64 (n : Int)] W fun e w' => e = .returned (.int .i64 (pickN A n : Int)) ∧ w' = W) := fun W => pick_any A n W hA (by omega)
  have HP2 : Hid (∀ W, Calls Tryz.prog 32 #[.int .i64 K, .int .i64 12] W fun e w' => e = .returned (.int .i64 1) ∧ w' = W) := fun W => by
    have := pick_any K 12 W hK (by omega)
    rw [hk] at this
    exact this
  have hwl := World.block_lt_of_cell? w _ r0
  clear hC hK hA hk
  generalize pickN A n = kk at *
  go_enter Tryz.func15, Tryz.ntmps15
  go_wp2_with fail
  go_quiet ((go_at_call 32; exact Calls.quiet_of_same (HP1.out _)))
  go_wp2_with (first
    | (go_at_call 32; refine (HP2.out _).mono ?_; rintro e w' ⟨rfl, rfl⟩)
    | (go_at_call 33; refine (HC.out _ (by first | exact below_drewN ((Below.refl _ _).alloc (Nat.le_refl _) _) _ | exact (Below.refl _ _).alloc (Nat.le_refl _) _)).mono ?_; rintro e w9 ⟨rfl, hx⟩))
  go_ret
  exact ⟨rfl, hx⟩

set_option maxRecDepth 100000 in
set_option maxHeartbeats 1000000 in
theorem step_known {w : World} {wb n : Nat} {K A B C : Int} {S : ByteArray} (hn : 2 ≤ n ∧ n ≤ 5) (r0 : w.cell? ⟨wb, 0, none⟩ = some (.int .i64 (n : Int))) (hK : -9223372036854775808 ≤ K ∧ K ≤ 9223372036854775807) (hA : -9223372036854775808 ≤ A ∧ A ≤ 9223372036854775807) (hk : pickN K 12 = 2)
    (X : World → Prop) (hC : ∀ W, Below w.heap.size w W → Calls Tryz.prog 35 #[.pointer (some ⟨wb, 0, none⟩), .int .i64 (pickN A n : Int)] W fun e w' => e = .returned (.bool true) ∧ X w') :
    Calls Tryz.prog 15 #[.pointer (some ⟨wb, 0, none⟩), .agg #[.int .i64 K, .int .i64 A, .int .i64 B, .int .i64 C, .string S]] w fun e w' => e = .returned (.bool true) ∧ X w' := by
  have HC : Hid (∀ W, Below w.heap.size w W → Calls Tryz.prog 35 #[.pointer (some ⟨wb, 0, none⟩), .int .i64 (pickN A n : Int)] W fun e w' => e = .returned (.bool true) ∧ X w') := hC
  have HP1 : Hid (∀ W, Calls Tryz.prog 32 #[.int .i64 A, .int .i64 (n : Int)] W fun e w' => e = .returned (.int .i64 (pickN A n : Int)) ∧ w' = W) := fun W => pick_any A n W hA (by omega)
  have HP2 : Hid (∀ W, Calls Tryz.prog 32 #[.int .i64 K, .int .i64 12] W fun e w' => e = .returned (.int .i64 2) ∧ w' = W) := fun W => by
    have := pick_any K 12 W hK (by omega)
    rw [hk] at this
    exact this
  have hwl := World.block_lt_of_cell? w _ r0
  clear hC hK hA hk
  generalize pickN A n = kk at *
  go_enter Tryz.func15, Tryz.ntmps15
  go_wp2_with fail
  go_quiet ((go_at_call 32; exact Calls.quiet_of_same (HP1.out _)))
  go_wp2_with (first
    | (go_at_call 32; refine (HP2.out _).mono ?_; rintro e w' ⟨rfl, rfl⟩)
    | (go_at_call 35; refine (HC.out _ (by first | exact below_drewN ((Below.refl _ _).alloc (Nat.le_refl _) _) _ | exact (Below.refl _ _).alloc (Nat.le_refl _) _)).mono ?_; rintro e w9 ⟨rfl, hx⟩))
  go_ret
  exact ⟨rfl, hx⟩

end Go.Proofs.YtckmppkdpnhodaaGreatDoor

namespace Go.Proofs.YtckmppkdpnhodaaGreatDoor
set_option linter.unusedVariables false
set_option linter.unusedSimpArgs false
open Go.RowKit

/-- A step of a script. -/
structure Sp where
  K : Int
  A : Int
  B : Int
  C : Int
  S : ByteArray

def Sp.ok (o : Sp) : Prop := -9223372036854775808 ≤ o.K ∧ o.K ≤ 9223372036854775807
def Sp.val (o : Sp) : Value := .agg #[.int .i64 o.K, .int .i64 o.A, .int .i64 o.B, .int .i64 o.C, .string o.S]

/-- A script in memory. -/
def ScriptAt (w : World) (p : Option Addr) (sc : List Sp) : Prop :=
  ∀ (i : Nat) (o : Sp), sc[i]? = some o → ∃ b off, p = some ⟨b, off, none⟩ ∧ w.cell? ⟨b, off + i * 5, none⟩ = some (.int .i64 o.K) ∧ w.cell? ⟨b, off + i * 5 + 1, none⟩ = some (.int .i64 o.A) ∧
    w.cell? ⟨b, off + i * 5 + 2, none⟩ = some (.int .i64 o.B) ∧ w.cell? ⟨b, off + i * 5 + 3, none⟩ = some (.int .i64 o.C) ∧ w.cell? ⟨b, off + i * 5 + 4, none⟩ = some (.string o.S)

def teaB : ByteArray := ⟨#[97, 100, 100, 32, 116, 101, 97, 32, 50]⟩

set_option maxRecDepth 100000 in
set_option maxHeartbeats 2000000 in
theorem plays_any {w : World} {n : Int} {p : Option Addr} {cap : Nat} {sc : List Sp} (hn : -9223372036854775808 ≤ n ∧ n ≤ 9223372036854775807) (hl : sc.length ≤ maxLen) (hok : ∀ o ∈ sc, o.ok)
    (I : Nat → Nat → World → Prop) (J : World → Prop) (hSc : ∀ k wb W, I k wb W → ScriptAt W p sc ∧ W.cell? ⟨wb, 0, none⟩ = some (.int .i64 ((2 + pickN n 4 : Nat) : Int)))
    (hB : Calls Tryz.prog 13 #[.int .i64 ((2 + pickN n 4 : Nat) : Int), .bool false] w fun e w' => ∃ wb, e = .returned (.pointer (some ⟨wb, 0, none⟩)) ∧ Calls Tryz.prog 16 #[.pointer (some ⟨wb, 0, none⟩), .int .i64 0, .string teaB] w' fun e w'' => e = .returned (.bool true) ∧ I 0 wb w'')
    (hS : ∀ k wb W (h : k < sc.length), I k wb W → pickN sc[k].K 12 ≤ 2 → Calls Tryz.prog 15 #[.pointer (some ⟨wb, 0, none⟩), sc[k].val] W fun e w' => e = .returned (.bool true) ∧ I (k + 1) wb w')
    (hS' : ∀ k wb W (h : k < sc.length), I k wb W → ¬ pickN sc[k].K 12 ≤ 2 → I (k + 1) wb W)
    (hV : ∀ k wb W, k < 2 + pickN n 4 → I (sc.length + k) wb W → Calls Tryz.prog 33 #[.pointer (some ⟨wb, 0, none⟩), .int .i64 (k : Int)] W fun e w' => e = .returned (.bool true) ∧ I (sc.length + k + 1) wb w')
    (hK : ∀ wb W, I (sc.length + (2 + pickN n 4)) wb W → Calls Tryz.prog 34 #[.pointer (some ⟨wb, 8, none⟩)] W fun e w' => e = .returned (.bool true) ∧ J w') :
    Calls Tryz.prog 12 #[.int .i64 n, .slice p sc.length cap, .int .i64 2, .bool false] w fun e w' => e = .returned (.bool true) ∧ J w' := by
  have HB : Hid (Calls Tryz.prog 13 #[.int .i64 ((2 + pickN n 4 : Nat) : Int), .bool false] w fun e w' => ∃ wb, e = .returned (.pointer (some ⟨wb, 0, none⟩)) ∧ Calls Tryz.prog 16 #[.pointer (some ⟨wb, 0, none⟩), .int .i64 0, .string teaB] w' fun e w'' => e = .returned (.bool true) ∧ I 0 wb w'') := hB
  have HS := hS; replace HS : Hid _ := HS
  have HS' := hS'; replace HS' : Hid _ := HS'
  have HV := hV; replace HV : Hid _ := HV
  have HK := hK; replace HK : Hid _ := HK
  have HSC := hSc; replace HSC : Hid _ := HSC
  have HN : Hid (∀ W, Calls Tryz.prog 14 #[.int .i64 n] W fun e w' => e = .returned (.int .i64 ((2 + pickN n 4 : Nat) : Int)) ∧ w' = W) := fun W => number_of n W hn
  have hp4 : (pickN n 4 : Int) < 4 := pickN_lt (by omega)
  have hN5 : 2 + pickN n 4 ≤ 5 := by omega
  clear hB hS hS' hV hK hSc hn hp4
  have HOK : Hid (∀ o ∈ sc, o.ok) := hok
  clear hok
  unfold maxLen at hl
  generalize 2 + pickN n 4 = N at *
  go_enter Tryz.func12, Tryz.ntmps12
  go_wp2_with (first
    | (go_at_call 14; refine (HN.out _).mono ?_; rintro e w' ⟨rfl, rfl⟩)
    | (go_at_call 13; refine HB.out.mono ?_; rintro e w1 ⟨wb, rfl, hD⟩; unfold teaB at hD)
    | (go_at_call 16; refine hD.mono ?_; rintro e w2 ⟨rfl, hI0⟩))
  go_loopw [10, 11] (fun ok i wr => ∃ k : Nat, k ≤ sc.length ∧ ok = .bool true ∧ i = .int .i64 k ∧ Hid (I k wb wr)) (fun _ i _ => sc.length - (intOf i).toNat)
  case atStart => exact ⟨0, Nat.zero_le _, rfl, rfl, hI0⟩
  case round =>
    obtain ⟨k, hk, rfl, rfl, hI⟩ := hrel
    by_cases hlt : k < sc.length
    · obtain ⟨hscr, -⟩ := HSC.out k wb wr hI.out
      obtain ⟨b, off, rfl, c0, c1, c2, c3, c4⟩ := hscr k sc[k] (List.getElem?_eq_getElem hlt)
      have hko := HOK.out sc[k] (List.getElem_mem hlt)
      have HP : Hid (∀ W, Calls Tryz.prog 32 #[.int .i64 sc[k].K, .int .i64 12] W fun e w' => e = .returned (.int .i64 (pickN sc[k].K 12 : Int)) ∧ w' = W) := fun W => pick_any sc[k].K 12 W hko (by omega)
      have hp12 : (pickN sc[k].K 12 : Int) < 12 := pickN_lt (by omega)
      by_cases hle : pickN sc[k].K 12 ≤ 2
      · have HST : Hid (Calls Tryz.prog 15 #[.pointer (some ⟨wb, 0, none⟩), .agg #[.int .i64 sc[k].K, .int .i64 sc[k].A, .int .i64 sc[k].B, .int .i64 sc[k].C, .string sc[k].S]] wr fun e w' => e = .returned (.bool true) ∧ I (k + 1) wb w') := HS.out k wb wr hlt hI.out hle
        clear hko
        generalize pickN sc[k].K 12 = pk at *
        generalize sc[k] = o at *
        obtain ⟨oK, oA, oB, oC, oS⟩ := o
        simp only at c0 c1 c2 c3 c4 HP HST
        go_wp2_with (first
          | (go_at_call 32; refine (HP.out _).mono ?_; rintro e w' ⟨rfl, hw'⟩; have hw'' := hw'.symm; clear hw'; subst hw'')
          | (go_at_call 15; refine HST.out.mono ?_; rintro e w4 ⟨rfl, hI4⟩))
        go_roundw
        case rel => exact ⟨k + 1, by omega, rfl, by go_num, hI4⟩
        case measure => simp [intOf]; omega
      · have hI1 := HS'.out k wb wr hlt hI.out hle
        replace hI1 : Hid (I (k + 1) wb wr) := hI1
        clear hko
        generalize pickN sc[k].K 12 = pk at *
        generalize sc[k] = o at *
        obtain ⟨oK, oA, oB, oC, oS⟩ := o
        simp only at c0 c1 c2 c3 c4 HP
        go_wp2_with (go_at_call 32; refine (HP.out _).mono ?_; rintro e w' ⟨rfl, hw'⟩; have hw'' := hw'.symm; clear hw'; subst hw'')
        go_roundw
        case rel => exact ⟨k + 1, by omega, rfl, by go_num, hI1⟩
        case measure => simp [intOf]; omega
    · obtain rfl : k = sc.length := by omega
      go_wp2_with fail
      go_loopw [10, 12] (fun ok i wr => ∃ k : Nat, k ≤ N ∧ ok = .bool true ∧ i = .int .i64 k ∧ Hid (I (sc.length + k) wb wr)) (fun _ i _ => N - (intOf i).toNat)
      case atStart => exact ⟨0, Nat.zero_le _, rfl, rfl, hI⟩
      case round =>
        obtain ⟨k, hk2, rfl, rfl, hI2⟩ := hrel
        obtain ⟨-, r0⟩ := HSC.out (sc.length + k) wb wr hI2.out
        by_cases hlt2 : k < N
        · have HVV : Hid _ := HV.out k wb wr hlt2 hI2.out
          go_wp2_with (go_at_call 33; refine Calls.mono HVV.out ?_; rintro e w5 ⟨rfl, hI5⟩)
          go_roundw
          case rel => exact ⟨k + 1, by omega, rfl, by go_num, hI5⟩
          case measure => simp [intOf]; omega
        · obtain rfl : k = N := by omega
          have HKK : Hid (Calls Tryz.prog 34 #[.pointer (some ⟨wb, 8, none⟩)] wr fun e w' => e = .returned (.bool true) ∧ J w') := HK.out wb wr hI2.out
          go_wp2_with (go_at_call 34; refine Calls.mono HKK.out ?_; rintro e w6 ⟨rfl, hJ⟩)
          go_ret
          exact ⟨rfl, hJ⟩

set_option maxHeartbeats 400000 in
theorem alone_any {w : World} {n : Int} {v : Value} {J : World → Prop} (hp : Calls Tryz.prog 12 #[.int .i64 n, v, .int .i64 2, .bool false] w fun e w' => e = .returned (.bool true) ∧ J w') :
    Calls Tryz.prog 3 #[.int .i64 n, v] w fun e w' => e = .returned (.bool true) ∧ J w' := by
  have HP : Hid (Calls Tryz.prog 12 #[.int .i64 n, v, .int .i64 2, .bool false] w fun e w' => e = .returned (.bool true) ∧ J w') := hp
  clear hp
  go_enter Tryz.func3, Tryz.ntmps3
  go_wp2_with (go_at_call 12; refine HP.out.mono ?_; rintro e w' ⟨rfl, hJ⟩)
  go_ret
  exact ⟨rfl, hJ⟩

end Go.Proofs.YtckmppkdpnhodaaGreatDoor
