/-
  begun: the world in memory, made. Contract of cartellaw.begun. The plain mathematics of the text of a command: what was read is what it is written as. (*World).step for the kinds Do, View, Known. plays and Alone, over whatever holds of the world between the steps (I), which every step keeps. What the statement asks of a replica's calls; what holds of the world between the steps; Do, View, Known keep it. Alone, for whatever replicas whose calls do what is asked of them. The numbers under which the program holds the library's lock, and that it holds it. A replica that hears nothing, in memory. New. Contracts of commands.isWord, countOf, kindOf. Contracts of strings.Cut at a blank, strings.Clone, commands.newCommand, parseAdd, Parse.
-/
import Derived.Test.YtckmppkdpnhodaaGreatDoorT01
import Derived.Deep.QuietTactic
import Derived.BigQuiet
import Derived.Test.YtckmppkdpnhodaaGreatDoorProg
import Derived.Conc.MuLone
import Derived.KernelRfl
import Derived.Test.YtckmppkdpnhodaaGreatDoorShelf
namespace Go.Proofs.YtckmppkdpnhodaaGreatDoor
set_option linter.unusedVariables false
set_option linter.unusedSimpArgs false
open Go.RowKit Go.Proofs

variable {R : World → Nat → Nat → Nat → List Cm → (Nat → Prop) → Prop}

attribute [local go_sem ↓] Go.wp_at_zero Go.wp_at_succ

end Go.Proofs.YtckmppkdpnhodaaGreatDoor

namespace Go.Proofs.YtckmppkdpnhodaaGreatDoor
set_option linter.unusedVariables false
set_option linter.unusedSimpArgs false
open Go.RowKit Go.Proofs

variable {R : World → Nat → Nat → Nat → List Cm → (Nat → Prop) → Prop}

attribute [local go_sem ↓] Go.wp_at_zero Go.wp_at_succ

theorem Tryz.info_rep : (Tryz.prog.info? 38).map (fun i => (i.zero, i.size, i.bytes)) = some (some (.pointer none), 1, 8) := by kernel_rfl
end Go.Proofs.YtckmppkdpnhodaaGreatDoor

namespace Go.Proofs.YtckmppkdpnhodaaGreatDoor
set_option linter.unusedVariables false
set_option linter.unusedSimpArgs false
open Go.RowKit Go.Proofs

theorem u8_back {a : UInt8} (h : 48 ≤ a.toNat) : UInt8.ofNat (48 + (a.toNat - 48)) = a := by
  have : 48 + (a.toNat - 48) = a.toNat := by omega
  rw [this]; simp

theorem countGo_text : ∀ (l : List UInt8) (c : Nat), countGo l 0 = c → 0 < c → l = (decN c).data.toList
  | [], c, h, h0 => by simp [countGo] at h; omega
  | [a], c, h, h0 => by
    simp only [countGo] at h
    split at h
    · omega
    split at h
    · omega
    have hc : c = a.toNat - 48 := by omega
    have ha : 48 ≤ a.toNat := by omega
    rw [decN_small (by omega), hc, u8_back ha]
  | [a, b], c, h, h0 => by
    simp only [countGo] at h
    split at h
    · omega
    split at h
    · omega
    split at h
    · omega
    split at h
    · omega
    have ha : 48 ≤ a.toNat := by omega
    have hb : 48 ≤ b.toNat := by omega
    have h1 : c / 10 = a.toNat - 48 := by omega
    have h2 : c % 10 = b.toNat - 48 := by omega
    rw [decN_big (by omega), decN_small (by omega), h1, h2, u8_back ha, u8_back hb]
    simp [ByteArray.data_append]
  | a :: b :: e :: r, c, h, h0 => by
    simp only [countGo] at h
    split at h
    · omega
    split at h
    · omega
    split at h
    · omega
    split at h
    · omega
    split at h
    · omega
    split at h
    · omega
    omega

theorem blank_is {s : ByteArray} (h : blank s < s.size) : s[blank s] = 32 := by
  have hk : s.data.toList.findIdx (· == 32) < s.data.toList.length := by simpa [blank] using h
  have := List.findIdx_getElem (p := (· == 32)) (xs := s.data.toList) (w := hk)
  have h3 : s.data.toList[s.data.toList.findIdx (· == 32)]'hk = 32 := by simpa using this
  exact h3

theorem at_blank {s : ByteArray} (h : blank s < s.size) : headOf s ++ ⟨#[32]⟩ ++ tailOf s = s := by
  unfold headOf tailOf
  rw [if_pos h, if_pos h]
  have hd : s.data[blank s]'h = 32 := blank_is h
  apply ByteArray.ext
  apply Array.toList_inj.1
  simp only [ByteArray.data_append, ByteArray.data_extract, Array.toList_append, Array.toList_extract, List.extract_eq_take_drop, List.drop_zero, Nat.sub_zero]
  have e : s.data.toList = s.data.toList.take (blank s) ++ ([32] ++ s.data.toList.drop (blank s + 1)) := by
    have := List.take_append_drop (blank s) s.data.toList
    conv => lhs; rw [← this]
    congr 1
    rw [List.drop_eq_getElem_cons (by simpa using h)]
    simp [hd]
  conv => rhs; rw [e]
  rw [List.append_assoc]
  congr 2
  rw [List.take_of_length_le (by rw [List.length_drop, Array.length_toList]; exact Nat.le_refl _)]

theorem read_parts {s : ByteArray} {cm : Cm} (h : readC s = some cm) : CmOk cm ∧ textOf cm = s := by
  unfold readC at h
  split at h
  case isFalse => cases h
  case isTrue h1 =>
    obtain ⟨hb, hw⟩ := h1
    simp only [hasBlank, decide_eq_true_eq] at hb
    have hs := at_blank hb
    split at h
    case isTrue h2 =>
      split at h
      case isFalse => cases h
      case isTrue h3 =>
        obtain ⟨hb2, hc⟩ := h3
        simp only [hasBlank, decide_eq_true_eq] at hb2
        have hs2 := at_blank hb2
        have hd := countGo_text _ _ rfl hc
        have hd' : decN (countN (tailOf (tailOf s))) = tailOf (tailOf s) := ByteArray.ext (Array.toList_inj.1 hd.symm)
        simp only [Option.some.injEq] at h
        subst h
        refine ⟨⟨hw, fun _ => ⟨hc, countGo_le _ 0 (by omega)⟩, fun h => absurd rfl h⟩, ?_⟩
        simp only [textOf, if_pos]
        rw [hd', ← h2]
        conv => rhs; rw [← hs, ← hs2]
        simp only [ByteArray.append_assoc]
    case isFalse h2 =>
      split at h
      case isTrue => cases h
      case isFalse h3 =>
        have hb2 : ¬ blank (tailOf s) < (tailOf s).size := by simpa [hasBlank] using h3
        have ht : headOf (tailOf s) = tailOf s := by unfold headOf; rw [if_neg hb2]
        have fin : ∀ k : Kd, k ≠ .closed → headOf s = k.bs → CmOk ⟨k, headOf (tailOf s), 0⟩ ∧ textOf ⟨k, headOf (tailOf s), 0⟩ = s := fun k hk hh => by
          refine ⟨⟨hw, fun e => absurd e hk, fun _ => rfl⟩, ?_⟩
          simp only [textOf, if_neg hk, ht, ByteArray.append_empty]
          rw [← hh]; exact hs
        split at h
        case isTrue h4 => simp only [Option.some.injEq] at h; subst h; exact fin .listen (by decide) h4
        case isFalse =>
        split at h
        case isTrue h4 => simp only [Option.some.injEq] at h; subst h; exact fin .established (by decide) h4
        case isFalse =>
        split at h
        case isTrue h4 => simp only [Option.some.injEq] at h; subst h; exact fin .finWait (by decide) h4
        case isFalse =>
        split at h
        case isTrue h4 => simp only [Option.some.injEq] at h; subst h; exact fin .closeWait (by decide) h4
        case isFalse => cases h

end Go.Proofs.YtckmppkdpnhodaaGreatDoor

namespace Go.Proofs.YtckmppkdpnhodaaGreatDoor
set_option linter.unusedVariables false
set_option linter.unusedSimpArgs false
open Go.RowKit

end Go.Proofs.YtckmppkdpnhodaaGreatDoor

namespace Go.Proofs.YtckmppkdpnhodaaGreatDoor
set_option linter.unusedVariables false
set_option linter.unusedSimpArgs false
open Go.RowKit

end Go.Proofs.YtckmppkdpnhodaaGreatDoor

namespace Go.Proofs.YtckmppkdpnhodaaGreatDoor
set_option linter.unusedVariables false
set_option linter.unusedSimpArgs false
open Go.RowKit Go.Proofs

section
variable {R : World → Nat → Nat → Nat → List Cm → (Nat → Prop) → Prop} {G : World → Prop} {w0 : World}

end

section
variable {R : World → Nat → Nat → Nat → List Cm → (Nat → Prop) → Prop} {G : World → Prop} {w0 : World}

end
end Go.Proofs.YtckmppkdpnhodaaGreatDoor

namespace Go.Proofs.YtckmppkdpnhodaaGreatDoor
set_option linter.unusedVariables false
set_option linter.unusedSimpArgs false
open Go.RowKit Go.Proofs

section
variable {R : World → Nat → Nat → Nat → List Cm → (Nat → Prop) → Prop} {G : World → Prop} {w0 : World}

end
end Go.Proofs.YtckmppkdpnhodaaGreatDoor

namespace Go.Proofs.YtckmppkdpnhodaaGreatDoor
set_option linter.unusedVariables false
set_option linter.unusedSimpArgs false
abbrev muLink : Go.Conc.Locks.MuLink := { lock := 44, unlock := 45, ilock := 78, iunlock := 79, lockSlow := 121, unlockSlow := 124, disable := 117, enable := 119, acquire := 120, relMerge := 122, cas32 := 118, add32 := 123, tMutex := 100, tIMutex := 98, tPMutex := 164, tPIMutex := 214, tPI32 := 216, tUP := 218, tNoCopy := 95, tU32 := 96 }
theorem muLib : Go.Conc.Locks.MuLib Tryz.prog muLink :=
  ⟨Tryz.func44, Tryz.func45, Tryz.func78, Tryz.func79, Tryz.func117, Tryz.func119, Tryz.func120, Tryz.func122, Tryz.func118, Tryz.func123, Tryz.underlying98, Tryz.runUnderlying98, Tryz.sizeOf98, Tryz.isAgg98, Tryz.zeroValue98, Tryz.underlying100, Tryz.runUnderlying100, Tryz.sizeOf100, Tryz.isAgg100, Tryz.zeroValue100, Tryz.underlying164, Tryz.runUnderlying164, Tryz.sizeOf164, Tryz.isAgg164, Tryz.zeroValue164, Tryz.underlying214, Tryz.runUnderlying214, Tryz.sizeOf214, Tryz.isAgg214, Tryz.zeroValue214, Tryz.underlying216, Tryz.runUnderlying216, Tryz.sizeOf216, Tryz.isAgg216, Tryz.zeroValue216, Tryz.underlying218, Tryz.runUnderlying218, Tryz.sizeOf218, Tryz.isAgg218, Tryz.zeroValue218, Tryz.underlying95, Tryz.runUnderlying95, Tryz.sizeOf95, Tryz.isAgg95, Tryz.zeroValue95, Tryz.underlying21, Tryz.runUnderlying21, Tryz.sizeOf21, Tryz.isAgg21, Tryz.zeroValue21, (by kernel_rfl)⟩
end Go.Proofs.YtckmppkdpnhodaaGreatDoor

namespace Go.Proofs.YtckmppkdpnhodaaGreatDoor
set_option linter.unusedVariables false
set_option linter.unusedSimpArgs false
open Go.RowKit Go.Proofs

attribute [local go_sem ↓] Go.wp_at_zero Go.wp_at_succ

/-- The number of a kind. -/
def Kd.num : Kd → Nat
  | .closed => 0
  | .listen => 1
  | .established => 2
  | .finWait => 3
  | .closeWait => 4

theorem Kd.num_lt (k : Kd) : k.num < 5 := by cases k <;> decide

end Go.Proofs.YtckmppkdpnhodaaGreatDoor

namespace Go.Proofs.YtckmppkdpnhodaaGreatDoor
set_option linter.unusedVariables false
set_option linter.unusedSimpArgs false
open Go.RowKit Go.Proofs

attribute [local go_sem ↓] Go.wp_at_zero Go.wp_at_succ

set_option maxHeartbeats 400000 in
theorem isWord_any (s : ByteArray) (w : World) (hs : s.size ≤ maxLen) :
    Calls Tryz.prog 83 #[.string s] w fun e w' => e = .returned (.bool (wordB s)) ∧ w' = w := by
  unfold maxLen at hs
  by_cases h1 : s.size < 1
  · have HW : Hid (wordB s = false) := by simp [Hid, wordB]; omega
    go_enter Tryz.func83, Tryz.ntmps83
    go_wp2
    go_ret
    exact ⟨ret_bool HW.out.symm, rfl⟩
  by_cases h8 : 8 < s.size
  · have HW : Hid (wordB s = false) := by simp [Hid, wordB]; omega
    go_enter Tryz.func83, Tryz.ntmps83
    go_wp2
    go_ret
    exact ⟨ret_bool HW.out.symm, rfl⟩
  have HW : Hid (wordB s = s.data.toList.all isLow) := by
    have a : 1 ≤ s.size := by omega
    have b : s.size ≤ 8 := by omega
    simp [Hid, wordB, a, b]
  go_enter Tryz.func83, Tryz.ntmps83
  go_wp2
  go_loop [14] (fun i => ∃ k : Nat, k ≤ s.size ∧ i = .int .i64 k ∧ Hid ((s.data.toList.take k).all isLow = true)) (fun i => s.size - (intOf i).toNat)
  case atStart => exact ⟨0, Nat.zero_le _, rfl, by simp [Hid]⟩
  case round =>
    obtain ⟨k, hk, rfl, HA⟩ := hrel
    by_cases hlt : k < s.size
    · have HSN : Hid ((s.data.toList.take (k + 1)).all isLow = ((s.data.toList.take k).all isLow && isLow s[k])) := by
        show _ = _
        rw [take_byte s k hlt, List.all_append]; simp
      have hm := mem_byte s k hlt
      by_cases ha : s[k].toNat < 97
      · go_wp2
        go_ret
        exact ⟨ret_bool (by rw [HW.out, eq_comm, List.all_eq_false]; exact ⟨s[k], hm, by simp [isLow]; omega⟩), rfl⟩
      · by_cases hb : 122 < s[k].toNat
        · go_wp2
          go_ret
          exact ⟨ret_bool (by rw [HW.out, eq_comm, List.all_eq_false]; exact ⟨s[k], hm, by simp [isLow]; omega⟩), rfl⟩
        · go_wp2
          go_round
          case rel => exact ⟨k + 1, by omega, by go_num, by show _ = true; rw [HSN.out, HA.out]; simp [isLow]; omega⟩
          case measure => simp [intOf]; omega
    · go_wp2
      go_ret
      exact ⟨ret_bool (by rw [HW.out, ← HA.out, List.take_of_length_le (by simp; omega)]), rfl⟩

theorem countN_long {s : ByteArray} (h : 2 < s.size) : countN s = 0 := by
  rcases Nat.eq_zero_or_pos (countN s) with h0 | h0
  · exact h0
  · have hd := countGo_text _ _ rfl h0
    have hl : s.size = (decN (countN s)).size := by
      have := congrArg List.length hd
      rw [Array.length_toList, Array.length_toList] at this
      exact this
    have h99 : countN s ≤ 99 := countGo_le _ 0 (by omega)
    have := decN_size 1 (countN s) (by omega)
    omega

theorem countN_nought {s : ByteArray} (h : 0 < s.size) (h0 : s[0].toNat = 48) : countN s = 0 := by
  unfold countN
  have e := drop_byte s 0 h
  rw [List.drop_zero] at e
  rw [e, countGo, if_neg (by omega), if_pos (.inl (by omega))]

set_option maxHeartbeats 800000 in
theorem countOf_any (s : ByteArray) (w : World) (hs : s.size ≤ maxLen) :
    Calls Tryz.prog 126 #[.string s] w fun e w' => e = .returned (.int .i64 (countN s : Int)) ∧ w' = w := by
  unfold maxLen at hs
  by_cases h1 : s.size < 1
  · have HW : Hid (countN s = 0) := by
      have e : s.data.toList = [] := List.eq_nil_of_length_eq_zero (by rw [Array.length_toList]; exact Nat.lt_one_iff.1 h1)
      show countGo _ 0 = 0
      rw [e, countGo]
    go_enter Tryz.func126, Tryz.ntmps126
    go_wp2
    go_ret
    exact ⟨ret_int (by rw [HW.out]; rfl), rfl⟩
  by_cases h2 : 2 < s.size
  · have HW : Hid (countN s = 0) := countN_long h2
    go_enter Tryz.func126, Tryz.ntmps126
    go_wp2
    go_ret
    exact ⟨ret_int (by rw [HW.out]; rfl), rfl⟩
  have hp : 0 < s.size := by omega
  by_cases h48 : s[0].toNat = 48
  · have HW : Hid (countN s = 0) := countN_nought hp h48
    go_enter Tryz.func126, Tryz.ntmps126
    go_wp2
    go_ret
    exact ⟨ret_int (by rw [HW.out]; rfl), rfl⟩
  have hb48 : ((s[0].toNat : Int) == 48) = false := by rw [beq_eq_false_iff_ne]; omega
  go_enter Tryz.func126, Tryz.ntmps126
  go_wp2
  go_loop [3, 20] (fun n i => ∃ k m : Nat, k ≤ s.size ∧ m ≤ 99 ∧ (k = 0 → m = 0) ∧ (k = 1 → 1 ≤ m ∧ m ≤ 9) ∧ i = .int .i64 k ∧ n = .int .i64 m ∧ Hid (countN s = countGo (s.data.toList.drop k) m)) (fun _ i => s.size - (intOf i).toNat)
  case atStart => exact ⟨0, 0, Nat.zero_le _, by omega, fun _ => rfl, by omega, rfl, rfl, by simp [Hid, countN]⟩
  case round =>
    obtain ⟨k, m, hk, hm, hk0, hk1, rfl, rfl, HA⟩ := hrel
    by_cases hlt : k < s.size
    · have HD : Hid (countN s = if s[k].toNat < 48 ∨ 57 < s[k].toNat then 0 else if 10 * m + (s[k].toNat - 48) = 0 ∨ 99 < 10 * m + (s[k].toNat - 48) then 0 else countGo (s.data.toList.drop (k + 1)) (10 * m + (s[k].toNat - 48))) := by
        show _ = _
        rw [HA.out, drop_byte s k hlt, countGo]
      have hne : k = 0 → s[k].toNat ≠ 48 := fun e => by subst e; exact h48
      clear HA
      by_cases ha : s[k].toNat < 48
      · go_wp2
        go_ret
        exact ⟨ret_int (by rw [HD.out, if_pos (.inl ha)]; rfl), rfl⟩
      · by_cases hb : 57 < s[k].toNat
        · go_wp2
          go_ret
          exact ⟨ret_int (by rw [HD.out, if_pos (.inr hb)]; rfl), rfl⟩
        · have hb' : s[k].toNat ≤ 57 := by omega
          have hb1 : 48 ≤ s[k].toNat := by omega
          have hz : ¬ (10 * m + (s[k].toNat - 48) = 0 ∨ 99 < 10 * m + (s[k].toNat - 48)) := by
            rcases (show k = 0 ∨ k = 1 by omega) with e | e
            · have := hk0 e; have := hne e; omega
            · have := hk1 e; omega
          have HZ : Hid (countN s = countGo (s.data.toList.drop (k + 1)) (10 * m + (s[k].toNat - 48))) := by show _ = _; rw [HD.out, if_neg (by omega), if_neg hz]
          have HK1 : Hid (k + 1 = 1 → 1 ≤ 10 * m + (s[k].toNat - 48) ∧ 10 * m + (s[k].toNat - 48) ≤ 9) := fun e => by
            have e0 : k = 0 := by omega
            have := hk0 e0; have := hne e0; omega
          clear hne hk0 hk1 h48 hb48
          go_wp2
          go_round
          case rel => exact ⟨k + 1, 10 * m + (s[k].toNat - 48), by omega, by omega, by omega, HK1.out, by go_num, by go_num, HZ.out⟩
          case measure => simp [intOf]; omega
    · go_wp2
      go_ret
      exact ⟨ret_int (by rw [HA.out, List.drop_of_length_le (by simp; omega)]; rfl), rfl⟩

/-- The words of the kinds, in their table. -/
def VerbsAt (w : World) : Prop := ∀ k : Kd, w.cell? ⟨0, k.num, none⟩ = some (.string k.bs)

/-- The kind that a word names. -/
def kdOf (s : ByteArray) : Option Kd :=
  if s = (Kd.bs Go.Tcp.closed) then some .closed else if s = (Kd.bs Go.Tcp.listen) then some .listen else if s = (Kd.bs Go.Tcp.established) then some .established else if s = (Kd.bs Go.Tcp.finWait) then some .finWait else if s = (Kd.bs Go.Tcp.closeWait) then some .closeWait else none

/-- What kindOf answers. -/
def kdRes (q : Option Kd) : Value := .tuple #[.int .i64 ((q.map Kd.num).getD 0 : Nat), .bool q.isSome]

set_option maxRecDepth 100000 in
set_option maxHeartbeats 2000000 in
theorem kindOf_any (s : ByteArray) (w : World) (hv : VerbsAt w) :
    Calls Tryz.prog 81 #[.string s] w fun e w' => e = .returned (kdRes (kdOf s)) ∧ w' = w := by
  have c0 : w.cell? ⟨0, 0, none⟩ = some (.string (Kd.bs Go.Tcp.closed)) := hv .closed
  have c1 : w.cell? ⟨0, 1, none⟩ = some (.string (Kd.bs Go.Tcp.listen)) := hv .listen
  have c2 : w.cell? ⟨0, 2, none⟩ = some (.string (Kd.bs Go.Tcp.established)) := hv .established
  have c3 : w.cell? ⟨0, 3, none⟩ = some (.string (Kd.bs Go.Tcp.finWait)) := hv .finWait
  have c4 : w.cell? ⟨0, 4, none⟩ = some (.string (Kd.bs Go.Tcp.closeWait)) := hv .closeWait
  clear hv
  have i0 : ∀ w, (Instr.index 221 (.agg #[.string (Kd.bs Go.Tcp.closed), .string (Kd.bs Go.Tcp.listen), .string (Kd.bs Go.Tcp.established), .string (Kd.bs Go.Tcp.finWait), .string (Kd.bs Go.Tcp.closeWait)]) (.int .i64 0)).run Tryz.prog w = .ok (.string (Kd.bs Go.Tcp.closed)) w := fun _ => by kernel_rfl
  have i1 : ∀ w, (Instr.index 221 (.agg #[.string (Kd.bs Go.Tcp.closed), .string (Kd.bs Go.Tcp.listen), .string (Kd.bs Go.Tcp.established), .string (Kd.bs Go.Tcp.finWait), .string (Kd.bs Go.Tcp.closeWait)]) (.int .i64 1)).run Tryz.prog w = .ok (.string (Kd.bs Go.Tcp.listen)) w := fun _ => by kernel_rfl
  have i2 : ∀ w, (Instr.index 221 (.agg #[.string (Kd.bs Go.Tcp.closed), .string (Kd.bs Go.Tcp.listen), .string (Kd.bs Go.Tcp.established), .string (Kd.bs Go.Tcp.finWait), .string (Kd.bs Go.Tcp.closeWait)]) (.int .i64 2)).run Tryz.prog w = .ok (.string (Kd.bs Go.Tcp.established)) w := fun _ => by kernel_rfl
  have i3 : ∀ w, (Instr.index 221 (.agg #[.string (Kd.bs Go.Tcp.closed), .string (Kd.bs Go.Tcp.listen), .string (Kd.bs Go.Tcp.established), .string (Kd.bs Go.Tcp.finWait), .string (Kd.bs Go.Tcp.closeWait)]) (.int .i64 3)).run Tryz.prog w = .ok (.string (Kd.bs Go.Tcp.finWait)) w := fun _ => by kernel_rfl
  have i4 : ∀ w, (Instr.index 221 (.agg #[.string (Kd.bs Go.Tcp.closed), .string (Kd.bs Go.Tcp.listen), .string (Kd.bs Go.Tcp.established), .string (Kd.bs Go.Tcp.finWait), .string (Kd.bs Go.Tcp.closeWait)]) (.int .i64 4)).run Tryz.prog w = .ok (.string (Kd.bs Go.Tcp.closeWait)) w := fun _ => by kernel_rfl
  generalize hq : kdOf s = q
  have HQ : Hid (kdOf s = q) := hq
  clear hq
  go_enter Tryz.func81, Tryz.ntmps81
  go_wp2
  go_loop [7] (fun i => ∃ k : Nat, k ≤ 5 ∧ i = .int .i64 k ∧ Hid (∀ kd : Kd, kd.num < k → s ≠ kd.bs)) (fun i => 5 - (intOf i).toNat)
  case atStart => exact ⟨0, by omega, rfl, fun kd h => by omega⟩
  case round =>
    obtain ⟨k, hk, rfl, HA⟩ := hrel
    have bt : ∀ kd : Kd, s = kd.bs → (kd.bs.toList == s.toList) = true := fun kd h => by rw [h]; exact beq_self_eq_true _
    have bf : ∀ kd : Kd, ¬ s = kd.bs → (kd.bs.toList == s.toList) = false := fun kd h => by
      rw [beq_eq_false_iff_ne]; exact fun e => h (toList_inj e).symm
    rcases (show k = 0 ∨ k = 1 ∨ k = 2 ∨ k = 3 ∨ k = 4 ∨ k = 5 by omega) with rfl | rfl | rfl | rfl | rfl | rfl
    · by_cases hs : s = (Kd.bs Go.Tcp.closed)
      · have hb := bt .closed hs
        have HR : Hid (q = some .closed) := by
          show _ = _
          rw [← HQ.out, kdOf, if_pos hs]
        clear bt bf hs
        go_wp2
        go_ret2
        exact ⟨by rw [HR.out]; rfl, rfl⟩
      · have hb := bf .closed hs
        have HN : Hid (∀ kd : Kd, kd.num < 0 + 1 → s ≠ kd.bs) := fun kd h => by
          by_cases e : kd = .closed
          · subst e; exact hs
          · exact HA.out kd (by cases kd <;> simp [Kd.num] at h e ⊢)
        clear bt bf hs
        go_wp2
        go_round
        case rel => exact ⟨0 + 1, by omega, by go_num, HN.out⟩
        case measure => simp [intOf]
    · by_cases hs : s = (Kd.bs Go.Tcp.listen)
      · have hb := bt .listen hs
        have HR : Hid (q = some .listen) := by
          show _ = _
          rw [← HQ.out, kdOf, if_neg (HA.out .closed (by decide)), if_pos hs]
        clear bt bf hs
        go_wp2
        go_ret2
        exact ⟨by rw [HR.out]; rfl, rfl⟩
      · have hb := bf .listen hs
        have HN : Hid (∀ kd : Kd, kd.num < 1 + 1 → s ≠ kd.bs) := fun kd h => by
          by_cases e : kd = .listen
          · subst e; exact hs
          · exact HA.out kd (by cases kd <;> simp [Kd.num] at h e ⊢)
        clear bt bf hs
        go_wp2
        go_round
        case rel => exact ⟨1 + 1, by omega, by go_num, HN.out⟩
        case measure => simp [intOf]
    · by_cases hs : s = (Kd.bs Go.Tcp.established)
      · have hb := bt .established hs
        have HR : Hid (q = some .established) := by
          show _ = _
          rw [← HQ.out, kdOf, if_neg (HA.out .closed (by decide)), if_neg (HA.out .listen (by decide)), if_pos hs]
        clear bt bf hs
        go_wp2
        go_ret2
        exact ⟨by rw [HR.out]; rfl, rfl⟩
      · have hb := bf .established hs
        have HN : Hid (∀ kd : Kd, kd.num < 2 + 1 → s ≠ kd.bs) := fun kd h => by
          by_cases e : kd = .established
          · subst e; exact hs
          · exact HA.out kd (by cases kd <;> simp [Kd.num] at h e ⊢)
        clear bt bf hs
        go_wp2
        go_round
        case rel => exact ⟨2 + 1, by omega, by go_num, HN.out⟩
        case measure => simp [intOf]
    · by_cases hs : s = (Kd.bs Go.Tcp.finWait)
      · have hb := bt .finWait hs
        have HR : Hid (q = some .finWait) := by
          show _ = _
          rw [← HQ.out, kdOf, if_neg (HA.out .closed (by decide)), if_neg (HA.out .listen (by decide)), if_neg (HA.out .established (by decide)), if_pos hs]
        clear bt bf hs
        go_wp2
        go_ret2
        exact ⟨by rw [HR.out]; rfl, rfl⟩
      · have hb := bf .finWait hs
        have HN : Hid (∀ kd : Kd, kd.num < 3 + 1 → s ≠ kd.bs) := fun kd h => by
          by_cases e : kd = .finWait
          · subst e; exact hs
          · exact HA.out kd (by cases kd <;> simp [Kd.num] at h e ⊢)
        clear bt bf hs
        go_wp2
        go_round
        case rel => exact ⟨3 + 1, by omega, by go_num, HN.out⟩
        case measure => simp [intOf]
    · by_cases hs : s = (Kd.bs Go.Tcp.closeWait)
      · have hb := bt .closeWait hs
        have HR : Hid (q = some .closeWait) := by
          show _ = _
          rw [← HQ.out, kdOf, if_neg (HA.out .closed (by decide)), if_neg (HA.out .listen (by decide)), if_neg (HA.out .established (by decide)), if_neg (HA.out .finWait (by decide)), if_pos hs]
        clear bt bf hs
        go_wp2
        go_ret2
        exact ⟨by rw [HR.out]; rfl, rfl⟩
      · have hb := bf .closeWait hs
        have HN : Hid (∀ kd : Kd, kd.num < 4 + 1 → s ≠ kd.bs) := fun kd h => by
          by_cases e : kd = .closeWait
          · subst e; exact hs
          · exact HA.out kd (by cases kd <;> simp [Kd.num] at h e ⊢)
        clear bt bf hs
        go_wp2
        go_round
        case rel => exact ⟨4 + 1, by omega, by go_num, HN.out⟩
        case measure => simp [intOf]
    · have HR : Hid (q = none) := by
        show _ = _
        rw [← HQ.out, kdOf, if_neg (HA.out .closed (by decide)), if_neg (HA.out .listen (by decide)), if_neg (HA.out .established (by decide)), if_neg (HA.out .finWait (by decide)), if_neg (HA.out .closeWait (by decide))]
      clear bt bf
      go_wp2
      go_ret2
      exact ⟨by rw [HR.out]; rfl, rfl⟩

end Go.Proofs.YtckmppkdpnhodaaGreatDoor

namespace Go.Proofs.YtckmppkdpnhodaaGreatDoor
set_option linter.unusedVariables false
set_option linter.unusedSimpArgs false
open Go.RowKit Go.Proofs

attribute [local go_sem ↓] Go.wp_at_zero Go.wp_at_succ

theorem indexByte_find : ∀ (l : List UInt8), Lib.indexByte l 32 = if l.findIdx (· == 32) < l.length then (l.findIdx (· == 32) : Int) else -1
  | [] => by simp [Lib.indexByte]
  | b :: l => by
    have ih := indexByte_find l
    rw [Lib.indexByte, List.findIdx_cons]
    by_cases hb : (b == 32) = true
    · simp [hb]
    · have hb' : (b == 32) = false := by simpa using hb
      by_cases hl : l.findIdx (· == 32) < l.length
      · rw [if_pos hl] at ih
        have h1 : ((l.findIdx (· == 32) : Int) == -1) = false := by rw [beq_eq_false_iff_ne]; omega
        simp [hb', ih, h1, hl]
      · rw [if_neg hl] at ih
        simp [hb', ih, hl]

theorem index_blank (s : ByteArray) : Lib.indexByte s.data.toList 32 = if blank s < s.size then (blank s : Int) else -1 := by
  rw [indexByte_find, Array.length_toList]; rfl

set_option maxHeartbeats 800000 in
theorem lcut_any (s : ByteArray) (w : World) (hs : s.size ≤ maxLen) :
    Calls Tryz.prog 125 #[.string s, .string ⟨#[32]⟩] w fun e w' => e = .returned (.tuple #[.string (headOf s), .string (tailOf s), .bool (hasBlank s)]) ∧ ∃ n, w' = w.drewN n := by
  have HI : Hid (∀ w, Calls Tryz.prog 157 #[.string s, .string ⟨#[32]⟩] w fun e w' => e = .returned (.int .i64 (if blank s < s.size then (blank s : Int) else -1)) ∧ w' = w) := fun w => by
    rw [← index_blank]; exact Tryz.stringslite_Index_one s 32 w
  unfold maxLen at hs
  by_cases hb : blank s < s.size
  · have HR : Hid (headOf s = s.extract 0 (blank s) ∧ tailOf s = s.extract (blank s + 1) s.size ∧ hasBlank s = true) := by
      refine ⟨?_, ?_, ?_⟩ <;> simp [headOf, tailOf, hasBlank, hb]
    rw [if_pos hb] at HI
    generalize blank s = k at *
    have i0 : (0 : Int) ≤ (k : Int) := by omega
    have i1 : (k : Int) ≤ (s.size : Int) := by omega
    have i2 : (k : Int) + 1 ≤ (s.size : Int) := by omega
    have i3 : (0 : Int) ≤ (k : Int) + 1 := by omega
    go_enter Tryz.func125, Tryz.ntmps125
    go_wp2_with (go_at_call 157; refine (HI.out _).mono ?_; rintro e w' ⟨rfl, hw'⟩; have hw'' := hw'.symm; clear hw'; subst hw'')
    go_region
    all_goals go_wp2
    all_goals go_ret3
    all_goals
      obtain ⟨e1, e2, e3⟩ := HR.out
      exact ⟨by rw [e1, e2, e3]; rfl, 1, rfl⟩
  · have HR : Hid (headOf s = s ∧ tailOf s = ByteArray.empty ∧ hasBlank s = false) := by
      refine ⟨?_, ?_, ?_⟩ <;> simp [headOf, tailOf, hasBlank, hb]
    rw [if_neg hb] at HI
    go_enter Tryz.func125, Tryz.ntmps125
    go_wp2_with (go_at_call 157; refine (HI.out _).mono ?_; rintro e w' ⟨rfl, hw'⟩; have hw'' := hw'.symm; clear hw'; subst hw'')
    go_ret3
    obtain ⟨e1, e2, e3⟩ := HR.out
    exact ⟨by rw [e1, e2, e3]; rfl, 0, rfl⟩

end Go.Proofs.YtckmppkdpnhodaaGreatDoor
