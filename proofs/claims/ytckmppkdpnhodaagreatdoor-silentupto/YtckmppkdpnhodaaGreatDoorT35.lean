/-
  The reader over whatever bytes: number, replica, text.
-/
import Derived.Test.YtckmppkdpnhodaaGreatDoorT34
namespace Go.Proofs.YtckmppkdpnhodaaGreatDoor
set_option linter.unusedVariables false
set_option linter.unusedSimpArgs false
open Go.RowKit Go.Proofs

attribute [local go_sem ↓] Go.wp_at_zero Go.wp_at_succ

set_option maxRecDepth 100000 in
set_option maxHeartbeats 8000000 in
theorem numberX (q z : Nat) (rest : List UInt8) (bad : Bool) (w : World) (hr : Rb w q z rest bad) :
    Calls Tryz.prog 146 #[.pointer (some ⟨q, 0, none⟩)] w fun e w' => ∃ x : Nat, x < 72057594037927936 ∧ e = .returned (.int .i64 (x : Int)) ∧ RbTo w q z rest bad w' := by
  have HR : Hid (Rb w q z rest bad) := hr
  clear hr
  go_enter Tryz.func146, Tryz.ntmps146
  go_wp2
  go_loopw [3, 4] (fun a s wr => ∃ k pw acc : Nat, k ≤ 8 ∧ s = .int .i64 ((7 * k : Nat) : Int) ∧ a = .int .i64 (acc : Int) ∧ acc < pw ∧ Hid (pw = 128 ^ k) ∧ Hid (∃ rest' bad', Rb wr q z rest' bad' ∧ Upd [some q] w wr ∧ rest'.length ≤ rest.length ∧ (bad = true → bad' = true) ∧ (0 < k → bad' = false → rest'.length < rest.length))) (fun _ s _ => 56 - (intOf s).toNat)
  case atStart => exact ⟨0, 1, 0, by omega, rfl, rfl, by omega, rfl, rest, bad, HR.out, Upd.refl _ _, Nat.le_refl _, fun e => e, fun e => by omega⟩
  case round =>
    obtain ⟨k, pw, acc, hk, rfl, rfl, hacc, HP, HI⟩ := hrel
    obtain ⟨rest1, bad1, HRB⟩ : ∃ rest1 bad1, Hid (Rb wr q z rest1 bad1 ∧ Upd [some q] w wr ∧ rest1.length ≤ rest.length ∧ (bad = true → bad1 = true) ∧ (0 < k → bad1 = false → rest1.length < rest.length)) := HI.out
    have HO : Hid (Calls Tryz.prog 167 #[.pointer (some ⟨q, 0, none⟩)] wr fun e w' => ∃ x : Nat, x < 256 ∧ e = .returned (.int .i64 (x : Int)) ∧ Hid (RbTo w q z rest bad w')) := by
      refine (oneX q z rest1 bad1 wr HRB.out.1).mono ?_
      rintro e w' ⟨x, hx, he, h⟩
      exact ⟨x, hx, he, RbTo.trans HRB.out.2.1 HRB.out.2.2.1 HRB.out.2.2.2.1 h⟩
    have hpw := HP.out
    rcases (show k = 0 ∨ k = 1 ∨ k = 2 ∨ k = 3 ∨ k = 4 ∨ k = 5 ∨ k = 6 ∨ k = 7 ∨ k = 8 by omega) with rfl | rfl | rfl | rfl | rfl | rfl | rfl | rfl | rfl
    · obtain rfl : pw = 1 := hpw
      go_upto_region 6 with (go_at_call 167; refine HO.out.mono ?_; rintro e w2 ⟨x, hx, rfl, H2⟩)
      obtain ⟨md, hmd⟩ : ∃ md, md = x % 128 := ⟨_, rfl⟩
      obtain ⟨acc2, hacc2⟩ : ∃ a2, a2 = acc + md := ⟨_, rfl⟩
      have hm2 : md < 128 := by omega
      have ha2 : acc2 < 128 := by omega
      have ebm : (x : Int) % 128 = md := by omega
      have hs : (acc : Int) + (md : Int) = (acc2 : Int) := by omega
      clear hacc2 hmd
      by_cases hlo : x < 128
      · have eb : (x : Int) < 128 := by omega
        go_wp2
        go_ret
        exact ⟨acc2, by omega, rfl, H2.out⟩
      · have eb : ¬ (x : Int) < 128 := by omega
        go_wp2
        go_roundw
        case rel =>
          obtain ⟨rest2, bad2, q1, q2, q3, q4, q5⟩ := H2.out
          exact ⟨1, 128, acc2, by omega, rfl, rfl, ha2, rfl, rest2, bad2, q1, q2, q3, q4, fun _ => q5⟩
        case measure => simp [intOf]
    · obtain rfl : pw = 128 := hpw
      go_upto_region 6 with (go_at_call 167; refine HO.out.mono ?_; rintro e w2 ⟨x, hx, rfl, H2⟩)
      obtain ⟨md, hmd⟩ : ∃ md, md = x % 128 := ⟨_, rfl⟩
      obtain ⟨acc2, hacc2⟩ : ∃ a2, a2 = acc + md * 128 := ⟨_, rfl⟩
      have hm2 : md < 128 := by omega
      have ha2 : acc2 < 16384 := by omega
      have ebm : (x : Int) % 128 = md := by omega
      have hs : (acc : Int) + (md : Int) * 128 = (acc2 : Int) := by omega
      clear hacc2 hmd
      by_cases hlo : x < 128
      · have eb : (x : Int) < 128 := by omega
        go_wp2
        go_ret
        exact ⟨acc2, by omega, rfl, H2.out⟩
      · have eb : ¬ (x : Int) < 128 := by omega
        go_wp2
        go_roundw
        case rel =>
          obtain ⟨rest2, bad2, q1, q2, q3, q4, q5⟩ := H2.out
          exact ⟨2, 16384, acc2, by omega, rfl, rfl, ha2, rfl, rest2, bad2, q1, q2, q3, q4, fun _ => q5⟩
        case measure => simp [intOf]
    · obtain rfl : pw = 16384 := hpw
      go_upto_region 6 with (go_at_call 167; refine HO.out.mono ?_; rintro e w2 ⟨x, hx, rfl, H2⟩)
      obtain ⟨md, hmd⟩ : ∃ md, md = x % 128 := ⟨_, rfl⟩
      obtain ⟨acc2, hacc2⟩ : ∃ a2, a2 = acc + md * 16384 := ⟨_, rfl⟩
      have hm2 : md < 128 := by omega
      have ha2 : acc2 < 2097152 := by omega
      have ebm : (x : Int) % 128 = md := by omega
      have hs : (acc : Int) + (md : Int) * 16384 = (acc2 : Int) := by omega
      clear hacc2 hmd
      by_cases hlo : x < 128
      · have eb : (x : Int) < 128 := by omega
        go_wp2
        go_ret
        exact ⟨acc2, by omega, rfl, H2.out⟩
      · have eb : ¬ (x : Int) < 128 := by omega
        go_wp2
        go_roundw
        case rel =>
          obtain ⟨rest2, bad2, q1, q2, q3, q4, q5⟩ := H2.out
          exact ⟨3, 2097152, acc2, by omega, rfl, rfl, ha2, rfl, rest2, bad2, q1, q2, q3, q4, fun _ => q5⟩
        case measure => simp [intOf]
    · obtain rfl : pw = 2097152 := hpw
      go_upto_region 6 with (go_at_call 167; refine HO.out.mono ?_; rintro e w2 ⟨x, hx, rfl, H2⟩)
      obtain ⟨md, hmd⟩ : ∃ md, md = x % 128 := ⟨_, rfl⟩
      obtain ⟨acc2, hacc2⟩ : ∃ a2, a2 = acc + md * 2097152 := ⟨_, rfl⟩
      have hm2 : md < 128 := by omega
      have ha2 : acc2 < 268435456 := by omega
      have ebm : (x : Int) % 128 = md := by omega
      have hs : (acc : Int) + (md : Int) * 2097152 = (acc2 : Int) := by omega
      clear hacc2 hmd
      by_cases hlo : x < 128
      · have eb : (x : Int) < 128 := by omega
        go_wp2
        go_ret
        exact ⟨acc2, by omega, rfl, H2.out⟩
      · have eb : ¬ (x : Int) < 128 := by omega
        go_wp2
        go_roundw
        case rel =>
          obtain ⟨rest2, bad2, q1, q2, q3, q4, q5⟩ := H2.out
          exact ⟨4, 268435456, acc2, by omega, rfl, rfl, ha2, rfl, rest2, bad2, q1, q2, q3, q4, fun _ => q5⟩
        case measure => simp [intOf]
    · obtain rfl : pw = 268435456 := hpw
      go_upto_region 6 with (go_at_call 167; refine HO.out.mono ?_; rintro e w2 ⟨x, hx, rfl, H2⟩)
      obtain ⟨md, hmd⟩ : ∃ md, md = x % 128 := ⟨_, rfl⟩
      obtain ⟨acc2, hacc2⟩ : ∃ a2, a2 = acc + md * 268435456 := ⟨_, rfl⟩
      have hm2 : md < 128 := by omega
      have ha2 : acc2 < 34359738368 := by omega
      have ebm : (x : Int) % 128 = md := by omega
      have hs : (acc : Int) + (md : Int) * 268435456 = (acc2 : Int) := by omega
      clear hacc2 hmd
      by_cases hlo : x < 128
      · have eb : (x : Int) < 128 := by omega
        go_wp2
        go_ret
        exact ⟨acc2, by omega, rfl, H2.out⟩
      · have eb : ¬ (x : Int) < 128 := by omega
        go_wp2
        go_roundw
        case rel =>
          obtain ⟨rest2, bad2, q1, q2, q3, q4, q5⟩ := H2.out
          exact ⟨5, 34359738368, acc2, by omega, rfl, rfl, ha2, rfl, rest2, bad2, q1, q2, q3, q4, fun _ => q5⟩
        case measure => simp [intOf]
    · obtain rfl : pw = 34359738368 := hpw
      go_upto_region 6 with (go_at_call 167; refine HO.out.mono ?_; rintro e w2 ⟨x, hx, rfl, H2⟩)
      obtain ⟨md, hmd⟩ : ∃ md, md = x % 128 := ⟨_, rfl⟩
      obtain ⟨acc2, hacc2⟩ : ∃ a2, a2 = acc + md * 34359738368 := ⟨_, rfl⟩
      have hm2 : md < 128 := by omega
      have ha2 : acc2 < 4398046511104 := by omega
      have ebm : (x : Int) % 128 = md := by omega
      have hs : (acc : Int) + (md : Int) * 34359738368 = (acc2 : Int) := by omega
      clear hacc2 hmd
      by_cases hlo : x < 128
      · have eb : (x : Int) < 128 := by omega
        go_wp2
        go_ret
        exact ⟨acc2, by omega, rfl, H2.out⟩
      · have eb : ¬ (x : Int) < 128 := by omega
        go_wp2
        go_roundw
        case rel =>
          obtain ⟨rest2, bad2, q1, q2, q3, q4, q5⟩ := H2.out
          exact ⟨6, 4398046511104, acc2, by omega, rfl, rfl, ha2, rfl, rest2, bad2, q1, q2, q3, q4, fun _ => q5⟩
        case measure => simp [intOf]
    · obtain rfl : pw = 4398046511104 := hpw
      go_upto_region 6 with (go_at_call 167; refine HO.out.mono ?_; rintro e w2 ⟨x, hx, rfl, H2⟩)
      obtain ⟨md, hmd⟩ : ∃ md, md = x % 128 := ⟨_, rfl⟩
      obtain ⟨acc2, hacc2⟩ : ∃ a2, a2 = acc + md * 4398046511104 := ⟨_, rfl⟩
      have hm2 : md < 128 := by omega
      have ha2 : acc2 < 562949953421312 := by omega
      have ebm : (x : Int) % 128 = md := by omega
      have hs : (acc : Int) + (md : Int) * 4398046511104 = (acc2 : Int) := by omega
      clear hacc2 hmd
      by_cases hlo : x < 128
      · have eb : (x : Int) < 128 := by omega
        go_wp2
        go_ret
        exact ⟨acc2, by omega, rfl, H2.out⟩
      · have eb : ¬ (x : Int) < 128 := by omega
        go_wp2
        go_roundw
        case rel =>
          obtain ⟨rest2, bad2, q1, q2, q3, q4, q5⟩ := H2.out
          exact ⟨7, 562949953421312, acc2, by omega, rfl, rfl, ha2, rfl, rest2, bad2, q1, q2, q3, q4, fun _ => q5⟩
        case measure => simp [intOf]
    · obtain rfl : pw = 562949953421312 := hpw
      go_upto_region 6 with (go_at_call 167; refine HO.out.mono ?_; rintro e w2 ⟨x, hx, rfl, H2⟩)
      obtain ⟨md, hmd⟩ : ∃ md, md = x % 128 := ⟨_, rfl⟩
      obtain ⟨acc2, hacc2⟩ : ∃ a2, a2 = acc + md * 562949953421312 := ⟨_, rfl⟩
      have hm2 : md < 128 := by omega
      have ha2 : acc2 < 72057594037927936 := by omega
      have ebm : (x : Int) % 128 = md := by omega
      have hs : (acc : Int) + (md : Int) * 562949953421312 = (acc2 : Int) := by omega
      clear hacc2 hmd
      by_cases hlo : x < 128
      · have eb : (x : Int) < 128 := by omega
        go_wp2
        go_ret
        exact ⟨acc2, by omega, rfl, H2.out⟩
      · have eb : ¬ (x : Int) < 128 := by omega
        go_wp2
        go_roundw
        case rel =>
          obtain ⟨rest2, bad2, q1, q2, q3, q4, q5⟩ := H2.out
          exact ⟨8, 72057594037927936, acc2, by omega, rfl, rfl, ha2, rfl, rest2, bad2, q1, q2, q3, q4, fun _ => q5⟩
        case measure => simp [intOf]
    · obtain ⟨c1, f1⟩ := HRB.out.1.c1
      have HS : Hid (Rb (wr.setCell ⟨q, 1, none⟩ (.bool true)) q z rest1 true ∧ Upd [some q] wr (wr.setCell ⟨q, 1, none⟩ (.bool true))) := HRB.out.1.spoil
      clear HO hacc
      go_wp2
      go_ret
      exact ⟨0, by omega, rfl, rest1, true, HS.out.1, HRB.out.2.1.trans HS.out.2 fun i hi => .inl hi, HRB.out.2.2.1, fun _ => rfl, fun e => by simp at e⟩

set_option maxRecDepth 100000 in
set_option maxHeartbeats 4000000 in
theorem replicaX (q z : Nat) (rest : List UInt8) (bad : Bool) (w : World) (hr : Rb w q z rest bad) :
    Calls Tryz.prog 145 #[.pointer (some ⟨q, 0, none⟩)] w fun e w' => ∃ x : Nat, x < 5 ∧ e = .returned (.int .i64 (x : Int)) ∧ RbTo w q z rest bad w' := by
  have HO : Hid (Calls Tryz.prog 167 #[.pointer (some ⟨q, 0, none⟩)] w fun e w' => ∃ x : Nat, x < 256 ∧ e = .returned (.int .i64 (x : Int)) ∧ Hid (RbTo w q z rest bad w')) := oneX q z rest bad w hr
  clear hr
  go_enter Tryz.func145, Tryz.ntmps145
  go_upto_region 2 with (go_at_call 167; refine HO.out.mono ?_; rintro e w2 ⟨x, hx, rfl, H2⟩)
  by_cases h5 : x < 5
  · have e1 : ¬ (5 : Int) ≤ (x : Int) := by omega
    go_wp2
    go_ret
    exact ⟨x, h5, rfl, H2.out⟩
  · have e1 : (5 : Int) ≤ (x : Int) := by omega
    obtain ⟨rest2, bad2, q1, q2, q3, q4, q5⟩ := H2.out
    obtain ⟨c1, f1⟩ := q1.c1
    have HS : Hid (Rb (w2.setCell ⟨q, 1, none⟩ (.bool true)) q z rest2 true ∧ Upd [some q] w2 (w2.setCell ⟨q, 1, none⟩ (.bool true))) := q1.spoil
    have HU : Hid (Upd [some q] w w2) := q2
    clear q1 q2 H2
    go_wp2
    go_ret
    exact ⟨0, by omega, rfl, rest2, true, HS.out.1, HU.out.trans HS.out.2 fun i hi => .inl hi, q3, fun _ => rfl, fun e => by simp at e⟩

set_option maxRecDepth 100000 in
set_option maxHeartbeats 4000000 in
theorem textX (q z : Nat) (rest : List UInt8) (bad : Bool) (w : World) (hr : Rb w q z rest bad) :
    Calls Tryz.prog 147 #[.pointer (some ⟨q, 0, none⟩)] w fun e w' => ∃ s : ByteArray, s.size < 256 ∧ e = .returned (.string s) ∧ RbTo w q z rest bad w' := by
  have HO : Hid (Calls Tryz.prog 167 #[.pointer (some ⟨q, 0, none⟩)] w fun e w' => ∃ x : Nat, x < 256 ∧ e = .returned (.int .i64 (x : Int)) ∧ Hid (RbTo w q z rest bad w')) := oneX q z rest bad w hr
  have HT : Hid (∀ (x : Nat) W, x < 256 → RbTo w q z rest bad W → Calls Tryz.prog 168 #[.pointer (some ⟨q, 0, none⟩), .int .i64 (x : Int)] W fun e w' => ∃ (s : ByteArray) (p : Option Addr) (m c : Nat), s.size < 256 ∧ e = .returned (.slice p m c) ∧ (convert 55 9 (.slice p m c)).run Tryz.prog w' = .ok (.string s) w' ∧ Hid (RbTo w q z rest bad w')) := fun x W hx hW => by
    obtain ⟨rest2, bad2, q1, q2, q3, q4, q5⟩ := hW
    refine (takeX q z x rest2 bad2 (by omega) W q1).mono ?_
    rintro e w' ⟨hu, ⟨hl, off, c, h1, h2, h3, h4⟩ | ⟨hl, h1, h2⟩⟩
    · have hlen : (rest2.take x).length = x := by rw [List.length_take]; omega
      have hcv := conv_bytes h3
      refine ⟨strB (rest2.take x), some ⟨z, off, none⟩, x, c, ?_, h1, hcv, rest2.drop x, bad2, h4, q2.trans hu fun i hi => .inl hi, ?_, q4, fun e => ?_⟩
      · have : (strB (rest2.take x)).size = (rest2.take x).length := by simp [strB, ByteArray.size]
        omega
      · rw [List.length_drop]; omega
      · have := q5 e; rw [List.length_drop]; omega
    · refine ⟨strB [], none, 0, 0, by decide, h1, conv_bytes (l := []) ⟨none, 0, rfl, fun i x hx => by simp at hx⟩, rest2, true, h2, q2.trans hu fun i hi => .inl hi, q3, fun _ => rfl, fun e => by simp at e⟩
  clear hr
  go_enter Tryz.func147, Tryz.ntmps147
  go_wp2_with (first
    | (go_at_call 168; refine (HT.out _ _ hx H2.out).mono ?_; rintro e w3 ⟨s, p, m, c, hs, rfl, hcv, H3⟩)
    | (go_at_call 167; refine HO.out.mono ?_; rintro e w2 ⟨x, hx, rfl, H2⟩))
  go_ret
  exact ⟨s, hs, rfl, H3.out⟩

end Go.Proofs.YtckmppkdpnhodaaGreatDoor
