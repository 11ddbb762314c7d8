/-
  Wins.
-/
import Derived.Test.YtckmppkdpnhodaaGreatDoorT44
namespace Go.Proofs.YtckmppkdpnhodaaGreatDoor
set_option linter.unusedVariables false
set_option linter.unusedSimpArgs false
open Go.RowKit Go.Proofs

attribute [local go_sem ↓] Go.wp_at_zero Go.wp_at_succ

theorem Wi5.drew {W w : World} {n gb pb pc : Nat} {rbs : Nat → Nat} {a : Nat} (h : Wi5 W n gb pb pc rbs a w) : Wi5 W n gb pb pc rbs a w.drew := by
  obtain ⟨S, x1, x2, x3, x4, hG, h2⟩ := h
  exact ⟨S, x1, x2, x3, x4, hG.below (Below.refl _ w).drew, h2⟩

theorem both_cat (a : Nat) : (⟨#[105, 116, 101, 109, 32, 116, 101, 97, 32]⟩ ++ dgB a) ++ ⟨#[10, 99, 111, 117, 112, 111, 110, 32, 104, 97, 108, 102, 10]⟩ = bothB a := by
  apply bytes_ext
  simp [dgB, bothB]

theorem both_cut {a : Nat} (ha : a < 9) : (⟨#[105, 116, 101, 109, 32, 116, 101, 97, 32]⟩ ++ (⟨#[49, 50, 51, 52, 53, 54, 55, 56, 57]⟩ : ByteArray).extract a (a + 1)) ++ ⟨#[10, 99, 111, 117, 112, 111, 110, 32, 104, 97, 108, 102, 10]⟩ = bothB a := by
  have e : (⟨#[49, 50, 51, 52, 53, 54, 55, 56, 57]⟩ : ByteArray).extract a (a + 1) = dgB a := by
    rcases (show a = 0 ∨ a = 1 ∨ a = 2 ∨ a = 3 ∨ a = 4 ∨ a = 5 ∨ a = 6 ∨ a = 7 ∨ a = 8 by omega) with rfl | rfl | rfl | rfl | rfl | rfl | rfl | rfl | rfl <;> kernel_rfl
  rw [e, both_cat]

set_option maxRecDepth 100000 in
set_option maxHeartbeats 8000000 in
theorem winsG (W : World) (hg : Glob W) (one other nr : Int) (h1 : -9223372036854775808 ≤ one ∧ one ≤ 9223372036854775807) (h2 : -9223372036854775808 ≤ other ∧ other ≤ 9223372036854775807) (hnr : -9223372036854775808 ≤ nr ∧ nr ≤ 9223372036854775807) (bw tw : Bool) :
    Calls Tryz.prog 7 #[.int .i64 one, .int .i64 other, .int .i64 nr, .bool bw, .bool tw] W fun e w' => e = .returned (.bool true) ∧ Below W.heap.size W w' := by
  have HG : Hid (Glob W) := hg
  have HP : Hid (∀ (c m : Int) (w : World), (-9223372036854775808 ≤ c ∧ c ≤ 9223372036854775807) → (0 < m ∧ m ≤ 100) → Calls Tryz.prog 18 #[.int .i64 c, .int .i64 m] w fun e w' => e = .returned (.int .i64 (pickN c m : Int)) ∧ w' = w) := fun c m w hc hm => pickK c m w hc hm
  have hq : pickN nr 4 < 4 := by have : (pickN nr 4 : Int) < 4 := pickN_lt (by omega); omega
  have ha : pickN one 9 < 9 := by have : (pickN one 9 : Int) < 9 := pickN_lt (by omega); omega
  have hb : pickN other 9 < 9 := by have : (pickN other 9 : Int) < 9 := pickN_lt (by omega); omega
  have HBG : Hid (Calls Tryz.prog 19 #[.int .i64 (2 + (pickN nr 4 : Int))] W fun e w' => ∃ gb pb pc rbs, e = .returned (.pointer (some ⟨gb, 0, none⟩)) ∧ Hid (GrpR W (2 + pickN nr 4) 10 1000 gb pb pc rbs (fun _ => Sr.empty) w')) := by
    have := begunR (2 + pickN nr 4) (by omega) W (LB := 10) (NB := 1000) (by omega) (by omega)
    have e : ((2 + pickN nr 4 : Nat) : Int) = 2 + (pickN nr 4 : Int) := by omega
    rwa [e] at this
  clear hg
  go_enter Tryz.func7, Tryz.ntmps7
  have hmx : Tryz.prog.follows .mixedOrders = true := by kernel_rfl
  go_upto_region 7 with (first
    | (go_at_call 18; refine (HP.out _ _ _ (by assumption) (by omega)).mono ?_; rintro e w' ⟨rfl, hw⟩; have hw' := hw.symm; clear hw; subst hw')
    | (go_at_call 19; refine HBG.out.mono ?_; rintro e w2 ⟨gb, pb, pc, rbs, rfl, H2⟩))
  generalize pickN nr 4 = q at *
  generalize pickN one 9 = a at *
  generalize pickN other 9 = b at *
  obtain ⟨n, hnq⟩ : ∃ n, 2 + q = n := ⟨_, rfl⟩
  have hni : 2 + (q : Int) = (n : Int) := by omega
  rw [hnq] at H2
  have hn5 : 2 ≤ n ∧ n ≤ 5 := by omega
  simp only [hni]
  clear HP HBG
  have HD0 : Hid (∀ w, Wi0 W n gb pb pc rbs w → Calls Tryz.prog 20 #[.pointer (some ⟨rbs 0, 0, none⟩), .string (⟨#[97, 100, 100, 32, 116, 101, 97, 32]⟩ ++ dgB a)] w fun e w' => e = .returned (.int .i64 0) ∧ GC n gb pb pc (rbs 0) (rbs 1) (rbs (n - 1)) w' ∧ Hid (Wi1 W n gb pb pc rbs a w')) := fun w h => wi_0 HG.out ha w h
  have HD1 : Hid (∀ w, Wi1 W n gb pb pc rbs a w → Calls Tryz.prog 20 #[.pointer (some ⟨rbs 0, 0, none⟩), .string ⟨#[97, 112, 112, 108, 121, 32, 104, 97, 108, 102]⟩] w fun e w' => e = .returned (.int .i64 0) ∧ GC n gb pb pc (rbs 0) (rbs 1) (rbs (n - 1)) w' ∧ Hid (Wi2 W n gb pb pc rbs a w')) := fun w h => wi_1 HG.out w h
  have HR2 : Hid (∀ w, Wi2 W n gb pb pc rbs a w → Calls Tryz.prog 21 #[.pointer (some ⟨gb, 0, none⟩), .int .i64 62, .bool bw, .bool tw] w fun e w' => e = .returned (.bool true) ∧ GC n gb pb pc (rbs 0) (rbs 1) (rbs (n - 1)) w' ∧ Hid (Wi3 W n gb pb pc rbs a w')) := fun w h => wi_2 HG.out bw tw w h
  have HA3 : Hid (∀ w, Wi3 W n gb pb pc rbs a w → Calls Tryz.prog 22 #[.pointer (some ⟨gb, 0, none⟩), .int .i64 2] w fun e w' => e = .returned (.bool true) ∧ GC n gb pb pc (rbs 0) (rbs 1) (rbs (n - 1)) w' ∧ Hid (Wi3 W n gb pb pc rbs a w')) := fun w h => wi_3a HG.out w h
  have HV3 : Hid (∀ w, Wi3 W n gb pb pc rbs a w → Calls Tryz.prog 23 #[.pointer (some ⟨rbs (n - 1), 0, none⟩)] w fun e w' => e = .returned (.string (bothB a)) ∧ GC n gb pb pc (rbs 0) (rbs 1) (rbs (n - 1)) w' ∧ Hid (Wi3 W n gb pb pc rbs a w')) := fun w h => wi_3v HG.out ha w h
  have HD3 : Hid (∀ w, Wi3 W n gb pb pc rbs a w → Calls Tryz.prog 20 #[.pointer (some ⟨rbs 0, 0, none⟩), .string ⟨#[114, 101, 109, 111, 118, 101, 32, 116, 101, 97]⟩] w fun e w' => e = .returned (.int .i64 0) ∧ GC n gb pb pc (rbs 0) (rbs 1) (rbs (n - 1)) w' ∧ Hid (Wi4 W n gb pb pc rbs a w')) := fun w h => wi_3 HG.out ha w h
  have HD4 : Hid (∀ w, Wi4 W n gb pb pc rbs a w → Calls Tryz.prog 20 #[.pointer (some ⟨rbs 0, 0, none⟩), .string ⟨#[114, 101, 118, 111, 107, 101, 32, 104, 97, 108, 102]⟩] w fun e w' => e = .returned (.int .i64 0) ∧ GC n gb pb pc (rbs 0) (rbs 1) (rbs (n - 1)) w' ∧ Hid (Wi5 W n gb pb pc rbs a w')) := fun w h => wi_4 HG.out w h
  have HD5 : Hid (∀ w, Wi5 W n gb pb pc rbs a w → Calls Tryz.prog 20 #[.pointer (some ⟨rbs 1, 0, none⟩), .string (⟨#[97, 100, 100, 32, 116, 101, 97, 32]⟩ ++ dgB b)] w fun e w' => e = .returned (.int .i64 0) ∧ GC n gb pb pc (rbs 0) (rbs 1) (rbs (n - 1)) w' ∧ Hid (Wi6 W n gb pb pc rbs a b w')) := fun w h => wi_5 HG.out hb w h
  have HD6 : Hid (∀ w, Wi6 W n gb pb pc rbs a b w → Calls Tryz.prog 20 #[.pointer (some ⟨rbs 1, 0, none⟩), .string ⟨#[97, 112, 112, 108, 121, 32, 104, 97, 108, 102]⟩] w fun e w' => e = .returned (.int .i64 0) ∧ GC n gb pb pc (rbs 0) (rbs 1) (rbs (n - 1)) w' ∧ Hid (Wi7 W n gb pb pc rbs a b w')) := fun w h => wi_6 HG.out w h
  have HV7 : Hid (∀ w, Wi7 W n gb pb pc rbs a b w → Calls Tryz.prog 23 #[.pointer (some ⟨rbs 0, 0, none⟩)] w fun e w' => e = .returned (.string ⟨#[]⟩) ∧ GC n gb pb pc (rbs 0) (rbs 1) (rbs (n - 1)) w' ∧ Hid (Wi7 W n gb pb pc rbs a b w')) := fun w h => wi_7v HG.out w h
  have HR7 : Hid (∀ w, Wi7 W n gb pb pc rbs a b w → Calls Tryz.prog 21 #[.pointer (some ⟨gb, 0, none⟩), .int .i64 62, .bool bw, .bool tw] w fun e w' => e = .returned (.bool true) ∧ GC n gb pb pc (rbs 0) (rbs 1) (rbs (n - 1)) w' ∧ Hid (Wi8 W n gb pb pc rbs a b w')) := fun w h => wi_7 HG.out bw tw w h
  have HA8 : Hid (∀ w, Wi8 W n gb pb pc rbs a b w → Calls Tryz.prog 22 #[.pointer (some ⟨gb, 0, none⟩), .int .i64 6] w fun e w' => e = .returned (.bool true) ∧ GC n gb pb pc (rbs 0) (rbs 1) (rbs (n - 1)) w' ∧ Hid (Wi8 W n gb pb pc rbs a b w')) := fun w h => wi_8a HG.out w h
  have HV8 : Hid (∀ w, Wi8 W n gb pb pc rbs a b w → Calls Tryz.prog 23 #[.pointer (some ⟨rbs (n - 1), 0, none⟩)] w fun e w' => e = .returned (.string (bothB b)) ∧ GC n gb pb pc (rbs 0) (rbs 1) (rbs (n - 1)) w' ∧ Hid (Wi8 W n gb pb pc rbs a b w')) := fun w h => wi_8v HG.out hb w h
  have HD8 : Hid (∀ w, Wi8 W n gb pb pc rbs a b w → Calls Tryz.prog 20 #[.pointer (some ⟨rbs (n - 1), 0, none⟩), .string ⟨#[114, 101, 109, 111, 118, 101, 32, 116, 101, 97]⟩] w fun e w' => e = .returned (.int .i64 0) ∧ GC n gb pb pc (rbs 0) (rbs 1) (rbs (n - 1)) w' ∧ Hid (Wi9 W n gb pb pc rbs a b w')) := fun w h => wi_8 HG.out hb w h
  have HD9 : Hid (∀ w, Wi9 W n gb pb pc rbs a b w → Calls Tryz.prog 20 #[.pointer (some ⟨rbs (n - 1), 0, none⟩), .string ⟨#[114, 101, 109, 111, 118, 101, 32, 116, 101, 97]⟩] w fun e w' => e = .returned (.int .i64 3) ∧ GC n gb pb pc (rbs 0) (rbs 1) (rbs (n - 1)) w' ∧ Hid (Wi9 W n gb pb pc rbs a b w')) := fun w h => wi_9u HG.out w h
  have HR9 : Hid (∀ w, Wi9 W n gb pb pc rbs a b w → Calls Tryz.prog 21 #[.pointer (some ⟨gb, 0, none⟩), .int .i64 62, .bool bw, .bool tw] w fun e w' => e = .returned (.bool true) ∧ GC n gb pb pc (rbs 0) (rbs 1) (rbs (n - 1)) w' ∧ Hid (Wi10 W n gb pb pc rbs a b w')) := fun w h => wi_9 HG.out bw tw w h
  have HA10 : Hid (∀ w, Wi10 W n gb pb pc rbs a b w → Calls Tryz.prog 22 #[.pointer (some ⟨gb, 0, none⟩), .int .i64 7] w fun e w' => e = .returned (.bool true) ∧ GC n gb pb pc (rbs 0) (rbs 1) (rbs (n - 1)) w' ∧ Hid (Wi10 W n gb pb pc rbs a b w')) := fun w h => wi_10a HG.out w h
  have HV10 : Hid (∀ w, Wi10 W n gb pb pc rbs a b w → Calls Tryz.prog 23 #[.pointer (some ⟨rbs 0, 0, none⟩)] w fun e w' => e = .returned (.string ⟨#[99, 111, 117, 112, 111, 110, 32, 104, 97, 108, 102, 10]⟩) ∧ Hid (Below W.heap.size W w')) := fun w h => wi_10v HG.out w h
  have hid : (n : Int) - 1 = ((n - 1 : Nat) : Int) := by omega
  have hid0 : (0 : Int) ≤ ((n - 1 : Nat) : Int) := by omega
  have hid1 : ((n - 1 : Nat) : Int) < (n : Int) := by omega
  have hn0 : (0 : Int) < (n : Int) := by omega
  have hn1 : (1 : Int) < (n : Int) := by omega
  have HCA : Hid ((⟨#[105, 116, 101, 109, 32, 116, 101, 97, 32]⟩ ++ (⟨#[49, 50, 51, 52, 53, 54, 55, 56, 57]⟩ : ByteArray).extract a (a + 1)) ++ ⟨#[10, 99, 111, 117, 112, 111, 110, 32, 104, 97, 108, 102, 10]⟩ = bothB a) := both_cut ha
  have HCB : Hid ((⟨#[105, 116, 101, 109, 32, 116, 101, 97, 32]⟩ ++ (⟨#[49, 50, 51, 52, 53, 54, 55, 56, 57]⟩ : ByteArray).extract b (b + 1)) ++ ⟨#[10, 99, 111, 117, 112, 111, 110, 32, 104, 97, 108, 102, 10]⟩ = bothB b) := both_cut hb
  have H0 : Hid (Wi0 W n gb pb pc rbs w2.drew) := GrpR.below H2.out (Below.refl _ w2).drew
  obtain ⟨d0, d1, d2, d3⟩ := GrpR.gc H0.out
  clear hnq hni hq H2 HG h1 h2 hnr
  generalize rbs 0 = r0 at *
  generalize rbs 1 = r1 at *
  generalize rbs (n - 1) = rm at *
  have hS : (fun w' : World => w'.cell? ⟨gb, 0, none⟩ = some (.slice (some ⟨pb, 0, none⟩) n pc) ∧ w'.cell? ⟨pb, 0, none⟩ = some (.pointer (some ⟨r0, 0, none⟩))) w2.drew := ⟨d0, d1⟩
  refine wp_region_held (S := (fun w' : World => w'.cell? ⟨gb, 0, none⟩ = some (.slice (some ⟨pb, 0, none⟩) n pc) ∧ w'.cell? ⟨pb, 0, none⟩ = some (.pointer (some ⟨r0, 0, none⟩)))) hmx ?_
  refine wpAnyH_take (i := 0) (v := (.pointer (some ⟨gb, 0, none⟩))) rfl (by kernel_rfl) (by kernel_rfl) (by kernel_rfl) (fun _ _ _ h => h) (Or.inl ⟨by rfl, ?_⟩) hS ?_
  · intro W hSw
    obtain ⟨s0, s1⟩ := hSw
    go_simp
  dsimp only [List.getElem_toArray, List.getElem_cons_zero, List.getElem_cons_succ]
  simp only [Act.put, List.setIfInBounds_toArray, List.set_cons_zero, List.set_cons_succ]
  refine wpAnyH_take (i := 1) (v := (.pointer (some ⟨gb, 0, none⟩))) rfl (by kernel_rfl) (by kernel_rfl) (by kernel_rfl) (fun _ _ _ h => h) (Or.inl ⟨by rfl, ?_⟩) hS ?_
  · intro W hSw
    obtain ⟨s0, s1⟩ := hSw
    go_simp
  dsimp only [List.getElem_toArray, List.getElem_cons_zero, List.getElem_cons_succ]
  simp only [Act.put, List.setIfInBounds_toArray, List.set_cons_zero, List.set_cons_succ]
  refine wpAnyH_take (i := 2) (v := (.pointer (some ⟨gb, 0, none⟩))) rfl (by kernel_rfl) (by kernel_rfl) (by kernel_rfl) (fun _ _ _ h => h) (Or.inl ⟨by rfl, ?_⟩) hS ?_
  · intro W hSw
    obtain ⟨s0, s1⟩ := hSw
    go_simp
  dsimp only [List.getElem_toArray, List.getElem_cons_zero, List.getElem_cons_succ]
  simp only [Act.put, List.setIfInBounds_toArray, List.set_cons_zero, List.set_cons_succ]
  refine wpAnyH_take (i := 3) (v := (.slice (some ⟨pb, 0, none⟩) n pc)) rfl (by kernel_rfl) (by kernel_rfl) (by kernel_rfl) (fun _ _ _ h => h) (Or.inl ⟨by rfl, ?_⟩) hS ?_
  · intro W hSw
    obtain ⟨s0, s1⟩ := hSw
    go_simp
  dsimp only [List.getElem_toArray, List.getElem_cons_zero, List.getElem_cons_succ]
  simp only [Act.put, List.setIfInBounds_toArray, List.set_cons_zero, List.set_cons_succ]
  refine wpAnyH_take (i := 4) (v := (.pointer (some ⟨pb, 0, none⟩))) rfl (by kernel_rfl) (by kernel_rfl) (by kernel_rfl) (fun _ _ _ h => h) (Or.inl ⟨by rfl, ?_⟩) hS ?_
  · intro W hSw
    obtain ⟨s0, s1⟩ := hSw
    go_simp
    all_goals (intro hz; omega)
  dsimp only [List.getElem_toArray, List.getElem_cons_zero, List.getElem_cons_succ]
  simp only [Act.put, List.setIfInBounds_toArray, List.set_cons_zero, List.set_cons_succ]
  refine wpAnyH_take (i := 5) (v := (.pointer (some ⟨r0, 0, none⟩))) rfl (by kernel_rfl) (by kernel_rfl) (by kernel_rfl) (fun _ _ _ h => h) (Or.inl ⟨by rfl, ?_⟩) hS ?_
  · intro W hSw
    obtain ⟨s0, s1⟩ := hSw
    go_simp
  dsimp only [List.getElem_toArray, List.getElem_cons_zero, List.getElem_cons_succ]
  simp only [Act.put, List.setIfInBounds_toArray, List.set_cons_zero, List.set_cons_succ]
  refine wpAnyH_take (i := 6) (v := (.int .i64 (a : Int))) rfl (by kernel_rfl) (by kernel_rfl) (by kernel_rfl) (fun _ _ _ h => h) (Or.inl ⟨by rfl, ?_⟩) hS ?_
  · intro W hSw
    obtain ⟨s0, s1⟩ := hSw
    go_simp
  dsimp only [List.getElem_toArray, List.getElem_cons_zero, List.getElem_cons_succ]
  simp only [Act.put, List.setIfInBounds_toArray, List.set_cons_zero, List.set_cons_succ]
  refine wpAnyH_take (i := 7) (v := (.int .i64 (a : Int))) rfl (by kernel_rfl) (by kernel_rfl) (by kernel_rfl) (fun _ _ _ h => h) (Or.inl ⟨by rfl, ?_⟩) hS ?_
  · intro W hSw
    obtain ⟨s0, s1⟩ := hSw
    go_simp
  dsimp only [List.getElem_toArray, List.getElem_cons_zero, List.getElem_cons_succ]
  simp only [Act.put, List.setIfInBounds_toArray, List.set_cons_zero, List.set_cons_succ]
  refine wpAnyH_take (i := 8) (v := (.int .i64 ((a : Int) + 1))) rfl (by kernel_rfl) (by kernel_rfl) (by kernel_rfl) (fun _ _ _ h => h) (Or.inl ⟨by rfl, ?_⟩) hS ?_
  · intro W hSw
    obtain ⟨s0, s1⟩ := hSw
    go_simp
    rw [IntKind.wrap_i64]; omega
  dsimp only [List.getElem_toArray, List.getElem_cons_zero, List.getElem_cons_succ]
  simp only [Act.put, List.setIfInBounds_toArray, List.set_cons_zero, List.set_cons_succ]
  refine wpAnyH_take (i := 9) (v := (.string (dgB a))) rfl (by kernel_rfl) (by kernel_rfl) (by kernel_rfl) (fun _ _ _ h => h) (Or.inl ⟨by rfl, ?_⟩) hS ?_
  · intro W hSw
    obtain ⟨s0, s1⟩ := hSw
    rcases (show a = 0 ∨ a = 1 ∨ a = 2 ∨ a = 3 ∨ a = 4 ∨ a = 5 ∨ a = 6 ∨ a = 7 ∨ a = 8 by omega) with rfl | rfl | rfl | rfl | rfl | rfl | rfl | rfl | rfl <;> kernel_rfl
  dsimp only [List.getElem_toArray, List.getElem_cons_zero, List.getElem_cons_succ]
  simp only [Act.put, List.setIfInBounds_toArray, List.set_cons_zero, List.set_cons_succ]
  refine wpAnyH_take (i := 10) (v := (.string (⟨#[97, 100, 100, 32, 116, 101, 97, 32]⟩ ++ dgB a))) rfl (by kernel_rfl) (by kernel_rfl) (by kernel_rfl) (fun _ _ _ h => h) (Or.inl ⟨by rfl, ?_⟩) hS ?_
  · intro W hSw
    obtain ⟨s0, s1⟩ := hSw
    rfl
  dsimp only [List.getElem_toArray, List.getElem_cons_zero, List.getElem_cons_succ]
  simp only [Act.put, List.setIfInBounds_toArray, List.set_cons_zero, List.set_cons_succ]
  refine wpAnyH_ready (rs := [11]) (by kernel_rfl) (by simp) ?_
  refine AllReadyH.cons rfl (fun K hK => ?_) AllReadyH.nil
  rw [if_pos (by rfl)]
  dsimp only [List.getElem_toArray, List.getElem_cons_zero, List.getElem_cons_succ]
  go_simp
  refine (HD0.out _ H0.out).mono ?_
  rintro e w3 ⟨rfl, ⟨e0, e1, e2, e3⟩, H1⟩
  refine hK.out _ _ ⟨e0, e1⟩ (fun _ => ?_)
  clear hK K
  try simp only [Act.put, List.setIfInBounds_toArray, List.set_cons_zero, List.set_cons_succ]
  refine wpAnyH_ready (rs := [12]) (by kernel_rfl) (by simp) ?_
  refine AllReadyH.cons rfl (fun K hK => ?_) AllReadyH.nil
  rw [if_pos (by rfl)]
  dsimp only [List.getElem_toArray, List.getElem_cons_zero, List.getElem_cons_succ]
  go_simp
  refine hK.out _ _ ⟨e0, e1⟩ (fun _ => ?_)
  clear hK K
  try simp only [Act.put, List.setIfInBounds_toArray, List.set_cons_zero, List.set_cons_succ]
  refine wpAnyH_done (by kernel_rfl) ?_ _
  clear hS
  clear d0 d1 d2 d3 HD0
  go_upto_region 12 with (first
    | (go_at_call 23; refine (HV3.out _ H3a.out).mono ?_; rintro e w7 ⟨rfl, ⟨i0, i1, i2, i3⟩, H3v⟩)
    | (go_at_call 22; refine (HA3.out _ H3.out).mono ?_; rintro e w6 ⟨rfl, ⟨h0, h1, h2, h3⟩, H3a⟩)
    | (go_at_call 21; refine (HR2.out _ H2.out).mono ?_; rintro e w5 ⟨rfl, ⟨g0, g1, g2, g3⟩, H3⟩)
    | (go_at_call 20; refine (HD1.out _ H1.out).mono ?_; rintro e w4 ⟨rfl, ⟨f0, f1, f2, f3⟩, H2⟩))
  clear e0 e1 e2 e3 f0 f1 f2 f3 g0 g1 g2 g3 h0 h1 h2 h3
  have hca := HCA.out
  go_upto_region 14 with fail
  clear hca
  go_upto_region 16 with (first
    | (go_at_call 20; refine (HD4.out _ H4.out).mono ?_; rintro e w9 ⟨rfl, ⟨k0, k1, k2, k3⟩, H5⟩)
    | (go_at_call 20; refine (HD3.out _ H3v.out).mono ?_; rintro e w8 ⟨rfl, ⟨j0, j1, j2, j3⟩, H4⟩))
  have H5d : Hid (Wi5 W n gb pb pc rbs a w9.drew) := H5.out.drew
  clear i0 i1 i2 i3 j0 j1 j2 j3
  have hS : (fun w' : World => w'.cell? ⟨gb, 0, none⟩ = some (.slice (some ⟨pb, 0, none⟩) n pc) ∧ w'.cell? ⟨pb, 1, none⟩ = some (.pointer (some ⟨r1, 0, none⟩))) w9.drew := ⟨k0, k2⟩
  refine wp_region_held (S := (fun w' : World => w'.cell? ⟨gb, 0, none⟩ = some (.slice (some ⟨pb, 0, none⟩) n pc) ∧ w'.cell? ⟨pb, 1, none⟩ = some (.pointer (some ⟨r1, 0, none⟩)))) hmx ?_
  refine wpAnyH_take (i := 0) (v := (.pointer (some ⟨gb, 0, none⟩))) rfl (by kernel_rfl) (by kernel_rfl) (by kernel_rfl) (fun _ _ _ h => h) (Or.inl ⟨by rfl, ?_⟩) hS ?_
  · intro W hSw
    obtain ⟨s0, s1⟩ := hSw
    go_simp
  dsimp only [List.getElem_toArray, List.getElem_cons_zero, List.getElem_cons_succ]
  simp only [Act.put, List.setIfInBounds_toArray, List.set_cons_zero, List.set_cons_succ]
  refine wpAnyH_take (i := 1) (v := (.pointer (some ⟨gb, 0, none⟩))) rfl (by kernel_rfl) (by kernel_rfl) (by kernel_rfl) (fun _ _ _ h => h) (Or.inl ⟨by rfl, ?_⟩) hS ?_
  · intro W hSw
    obtain ⟨s0, s1⟩ := hSw
    go_simp
  dsimp only [List.getElem_toArray, List.getElem_cons_zero, List.getElem_cons_succ]
  simp only [Act.put, List.setIfInBounds_toArray, List.set_cons_zero, List.set_cons_succ]
  refine wpAnyH_take (i := 2) (v := (.pointer (some ⟨gb, 0, none⟩))) rfl (by kernel_rfl) (by kernel_rfl) (by kernel_rfl) (fun _ _ _ h => h) (Or.inl ⟨by rfl, ?_⟩) hS ?_
  · intro W hSw
    obtain ⟨s0, s1⟩ := hSw
    go_simp
  dsimp only [List.getElem_toArray, List.getElem_cons_zero, List.getElem_cons_succ]
  simp only [Act.put, List.setIfInBounds_toArray, List.set_cons_zero, List.set_cons_succ]
  refine wpAnyH_take (i := 3) (v := (.slice (some ⟨pb, 0, none⟩) n pc)) rfl (by kernel_rfl) (by kernel_rfl) (by kernel_rfl) (fun _ _ _ h => h) (Or.inl ⟨by rfl, ?_⟩) hS ?_
  · intro W hSw
    obtain ⟨s0, s1⟩ := hSw
    go_simp
  dsimp only [List.getElem_toArray, List.getElem_cons_zero, List.getElem_cons_succ]
  simp only [Act.put, List.setIfInBounds_toArray, List.set_cons_zero, List.set_cons_succ]
  refine wpAnyH_take (i := 4) (v := (.pointer (some ⟨pb, 1, none⟩))) rfl (by kernel_rfl) (by kernel_rfl) (by kernel_rfl) (fun _ _ _ h => h) (Or.inl ⟨by rfl, ?_⟩) hS ?_
  · intro W hSw
    obtain ⟨s0, s1⟩ := hSw
    go_simp
    all_goals (intro hz; omega)
  dsimp only [List.getElem_toArray, List.getElem_cons_zero, List.getElem_cons_succ]
  simp only [Act.put, List.setIfInBounds_toArray, List.set_cons_zero, List.set_cons_succ]
  refine wpAnyH_take (i := 5) (v := (.pointer (some ⟨r1, 0, none⟩))) rfl (by kernel_rfl) (by kernel_rfl) (by kernel_rfl) (fun _ _ _ h => h) (Or.inl ⟨by rfl, ?_⟩) hS ?_
  · intro W hSw
    obtain ⟨s0, s1⟩ := hSw
    go_simp
  dsimp only [List.getElem_toArray, List.getElem_cons_zero, List.getElem_cons_succ]
  simp only [Act.put, List.setIfInBounds_toArray, List.set_cons_zero, List.set_cons_succ]
  refine wpAnyH_take (i := 6) (v := (.int .i64 (b : Int))) rfl (by kernel_rfl) (by kernel_rfl) (by kernel_rfl) (fun _ _ _ h => h) (Or.inl ⟨by rfl, ?_⟩) hS ?_
  · intro W hSw
    obtain ⟨s0, s1⟩ := hSw
    go_simp
  dsimp only [List.getElem_toArray, List.getElem_cons_zero, List.getElem_cons_succ]
  simp only [Act.put, List.setIfInBounds_toArray, List.set_cons_zero, List.set_cons_succ]
  refine wpAnyH_take (i := 7) (v := (.int .i64 (b : Int))) rfl (by kernel_rfl) (by kernel_rfl) (by kernel_rfl) (fun _ _ _ h => h) (Or.inl ⟨by rfl, ?_⟩) hS ?_
  · intro W hSw
    obtain ⟨s0, s1⟩ := hSw
    go_simp
  dsimp only [List.getElem_toArray, List.getElem_cons_zero, List.getElem_cons_succ]
  simp only [Act.put, List.setIfInBounds_toArray, List.set_cons_zero, List.set_cons_succ]
  refine wpAnyH_take (i := 8) (v := (.int .i64 ((b : Int) + 1))) rfl (by kernel_rfl) (by kernel_rfl) (by kernel_rfl) (fun _ _ _ h => h) (Or.inl ⟨by rfl, ?_⟩) hS ?_
  · intro W hSw
    obtain ⟨s0, s1⟩ := hSw
    go_simp
    rw [IntKind.wrap_i64]; omega
  dsimp only [List.getElem_toArray, List.getElem_cons_zero, List.getElem_cons_succ]
  simp only [Act.put, List.setIfInBounds_toArray, List.set_cons_zero, List.set_cons_succ]
  refine wpAnyH_take (i := 9) (v := (.string (dgB b))) rfl (by kernel_rfl) (by kernel_rfl) (by kernel_rfl) (fun _ _ _ h => h) (Or.inl ⟨by rfl, ?_⟩) hS ?_
  · intro W hSw
    obtain ⟨s0, s1⟩ := hSw
    rcases (show b = 0 ∨ b = 1 ∨ b = 2 ∨ b = 3 ∨ b = 4 ∨ b = 5 ∨ b = 6 ∨ b = 7 ∨ b = 8 by omega) with rfl | rfl | rfl | rfl | rfl | rfl | rfl | rfl | rfl <;> kernel_rfl
  dsimp only [List.getElem_toArray, List.getElem_cons_zero, List.getElem_cons_succ]
  simp only [Act.put, List.setIfInBounds_toArray, List.set_cons_zero, List.set_cons_succ]
  refine wpAnyH_take (i := 10) (v := (.string (⟨#[97, 100, 100, 32, 116, 101, 97, 32]⟩ ++ dgB b))) rfl (by kernel_rfl) (by kernel_rfl) (by kernel_rfl) (fun _ _ _ h => h) (Or.inl ⟨by rfl, ?_⟩) hS ?_
  · intro W hSw
    obtain ⟨s0, s1⟩ := hSw
    rfl
  dsimp only [List.getElem_toArray, List.getElem_cons_zero, List.getElem_cons_succ]
  simp only [Act.put, List.setIfInBounds_toArray, List.set_cons_zero, List.set_cons_succ]
  refine wpAnyH_ready (rs := [11]) (by kernel_rfl) (by simp) ?_
  refine AllReadyH.cons rfl (fun K hK => ?_) AllReadyH.nil
  rw [if_pos (by rfl)]
  dsimp only [List.getElem_toArray, List.getElem_cons_zero, List.getElem_cons_succ]
  go_simp
  refine (HD5.out _ H5d.out).mono ?_
  rintro e wa ⟨rfl, ⟨l0, l1, l2, l3⟩, H6⟩
  refine hK.out _ _ ⟨l0, l2⟩ (fun _ => ?_)
  clear hK K
  try simp only [Act.put, List.setIfInBounds_toArray, List.set_cons_zero, List.set_cons_succ]
  refine wpAnyH_ready (rs := [12]) (by kernel_rfl) (by simp) ?_
  refine AllReadyH.cons rfl (fun K hK => ?_) AllReadyH.nil
  rw [if_pos (by rfl)]
  dsimp only [List.getElem_toArray, List.getElem_cons_zero, List.getElem_cons_succ]
  go_simp
  refine hK.out _ _ ⟨l0, l2⟩ (fun _ => ?_)
  clear hK K
  try simp only [Act.put, List.setIfInBounds_toArray, List.set_cons_zero, List.set_cons_succ]
  refine wpAnyH_done (by kernel_rfl) ?_ _
  clear hS
  clear k0 k1 k2 k3
  go_upto_region 22 with (first
    | (go_at_call 23; refine (HV8.out _ H8a.out).mono ?_; rintro e wf ⟨rfl, ⟨q0, q1, q2, q3⟩, H8v⟩)
    | (go_at_call 22; refine (HA8.out _ H8.out).mono ?_; rintro e we ⟨rfl, ⟨p0, p1, p2, p3⟩, H8a⟩)
    | (go_at_call 21; refine (HR7.out _ H7v.out).mono ?_; rintro e wd ⟨rfl, ⟨o0, o1, o2, o3⟩, H8⟩)
    | (go_at_call 23; refine (HV7.out _ H7.out).mono ?_; rintro e wc ⟨rfl, ⟨n0, n1, n2, n3⟩, H7v⟩)
    | (go_at_call 20; refine (HD6.out _ H6.out).mono ?_; rintro e wb ⟨rfl, ⟨m0, m1, m2, m3⟩, H7⟩))
  clear l0 l1 l2 l3 m0 m1 m2 m3 n0 n1 n2 n3 o0 o1 o2 o3 p0 p1 p2 p3
  have hcb := HCB.out
  go_upto_region 24 with fail
  clear hcb
  go_wp2_with (first
    | (go_at_call 23; refine (HV10.out _ H10a.out).mono ?_; rintro e wk ⟨rfl, HE⟩)
    | (go_at_call 22; refine (HA10.out _ H10.out).mono ?_; rintro e wj ⟨rfl, ⟨u0, u1, u2, u3⟩, H10a⟩)
    | (go_at_call 21; refine (HR9.out _ H9u.out).mono ?_; rintro e wi ⟨rfl, ⟨t0, t1, t2, t3⟩, H10⟩)
    | (go_at_call 20; refine (HD9.out _ H9.out).mono ?_; rintro e wh ⟨rfl, ⟨s0, s1, s2, s3⟩, H9u⟩)
    | (go_at_call 20; refine (HD8.out _ H8v.out).mono ?_; rintro e wg ⟨rfl, ⟨r0', r1', r2', r3'⟩, H9⟩))
  go_ret
  exact ⟨rfl, HE.out⟩

end Go.Proofs.YtckmppkdpnhodaaGreatDoor
