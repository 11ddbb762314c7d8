/-
  Silent.
-/
import Derived.Test.YtckmppkdpnhodaaGreatDoorT39
namespace Go.Proofs.YtckmppkdpnhodaaGreatDoor
set_option linter.unusedVariables false
set_option linter.unusedSimpArgs false
open Go.RowKit Go.Proofs

attribute [local go_sem ↓] Go.wp_at_zero Go.wp_at_succ

/-- Bytes that come in: of each run its address, its room, the bytes. -/
def RawAt (w : World) (p : Option Addr) (rs : List (Option Addr × Nat × List UInt8)) : Prop :=
  ∀ (i : Nat) (r : Option Addr × Nat × List UInt8), rs[i]? = some r → ∃ b off, p = some ⟨b, off, none⟩ ∧ w.cell? ⟨b, off + i, none⟩ = some (.slice r.1 r.2.2.length r.2.1) ∧ BytesAt w (.slice r.1 r.2.2.length r.2.1) r.2.2 ∧ r.2.2.length ≤ r.2.1 ∧ r.2.1 ≤ 9223372036854775807 ∧ r.2.2.length ≤ 1048576

theorem okB_short {f : List UInt8} (h : f.length < 5) : okB f = false := by
  cases hok : okB f with
  | false => rfl
  | true => have := ((okB_iff f).1 hok).1; omega

set_option maxRecDepth 100000 in
set_option maxHeartbeats 16000000 in
theorem silentG (W : World) (hg : Glob W) (nr : Int) (hnr : -9223372036854775808 ≤ nr ∧ nr ≤ 9223372036854775807) (p : Option Addr) (cap : Nat) (sc : List Ac) (hl : sc.length ≤ maxLen) (hok : ∀ o ∈ sc, o.ok) (hA : ActsAt W p sc) (p9 : Option Addr) (cap9 : Nat) (rs : List (Option Addr × Nat × List UInt8)) (hrl : rs.length ≤ 1048576) (hR : RawAt W p9 rs) :
    Calls Tryz.prog 11 #[.int .i64 nr, .slice p sc.length cap, .slice p9 rs.length cap9] W fun e w' => e = .returned (.bool true) ∧ Below W.heap.size W w' := by
  have HG : Hid (Glob W) := hg
  have HA : Hid (ActsAt W p sc) := hA
  have HRW : Hid (RawAt W p9 rs) := hR
  have HOK : Hid (∀ o ∈ sc, o.ok) := hok
  have HP : Hid (∀ (c m : Int) (w : World), (-9223372036854775808 ≤ c ∧ c ≤ 9223372036854775807) → (0 < m ∧ m ≤ 100) → Calls Tryz.prog 18 #[.int .i64 c, .int .i64 m] w fun e w' => e = .returned (.int .i64 (pickN c m : Int)) ∧ w' = w) := fun c m w hc hm => pickK c m w hc hm
  have hq : pickN nr 4 < 4 := by have : (pickN nr 4 : Int) < 4 := pickN_lt (by omega); omega
  have HBG : Hid (Calls Tryz.prog 19 #[.int .i64 (2 + (pickN nr 4 : Int))] W fun e w' => ∃ gb pb pc rbs r1, e = .returned (.pointer (some ⟨gb, 0, none⟩)) ∧ w'.cell? ⟨gb, 0, none⟩ = some (.slice (some ⟨pb, 0, none⟩) (2 + pickN nr 4) pc) ∧ w'.cell? ⟨pb, 1, none⟩ = some (.pointer (some ⟨r1, 0, none⟩)) ∧ Hid (rbs 1 = r1 ∧ GrpR W (2 + pickN nr 4) 50 1000 gb pb pc rbs (fun _ => Sr.empty) w')) := by
    have := begunR (2 + pickN nr 4) (by omega) W (LB := 50) (NB := 1000) (by omega) (by omega)
    have e : ((2 + pickN nr 4 : Nat) : Int) = 2 + (pickN nr 4 : Int) := by omega
    rw [e] at this
    refine this.mono ?_
    rintro e w' ⟨gb, pb, pc, rbs, he, h⟩
    exact ⟨gb, pb, pc, rbs, rbs 1, he, h.c0, h.ptr (by omega), rfl, h⟩
  have HD0 : Hid (∀ gb pb pc rbs r1 w, (rbs 1 = r1 ∧ GrpR W (2 + pickN nr 4) 50 1000 gb pb pc rbs (fun _ => Sr.empty) w) → Calls Tryz.prog 20 #[.pointer (some ⟨r1, 0, none⟩), .string ⟨#[97, 100, 100, 32, 116, 101, 97, 32, 51]⟩] w fun e w' => e = .returned (.int .i64 0) ∧ Hid (SilS W (2 + pickN nr 4) gb pb pc rbs 0 1 w')) := fun gb pb pc rbs r1 w h => by
    rw [← h.1]
    exact sil_do1 HG.out h.2
  clear hg hA hok hR
  unfold maxLen at hl
  have hq0 : (1 : Int) < ((2 + pickN nr 4 : Nat) : Int) := by omega
  go_enter Tryz.func11, Tryz.ntmps11
  have hmx : Tryz.prog.follows .mixedOrders = true := by kernel_rfl
  go_wp2_with (first
    | (go_at_call 18; refine (HP.out _ _ _ (by assumption) (by omega)).mono ?_; rintro e w' ⟨rfl, hw⟩; have hw' := hw.symm; clear hw; subst hw')
    | (go_at_call 20; refine (HD0.out _ _ _ _ _ _ HB1.out).mono ?_; rintro e w2 ⟨rfl, HST⟩)
    | (go_at_call 19; refine HBG.out.mono ?_; rintro e w1 ⟨gb, pb, pc, rbs, r1, rfl, b0, b1, HB1⟩))
  clear HBG HD0 HB1 hnr b0 b1 hq0
  generalize pickN nr 4 = q at *
  obtain ⟨n, hnq⟩ : ∃ n, 2 + q = n := ⟨_, rfl⟩
  have hni : 2 + (q : Int) = (n : Int) := by omega
  rw [hnq] at HST
  have hn5 : 2 ≤ n ∧ n ≤ 5 := by omega
  simp only [hni]
  clear hnq hni hq
  obtain ⟨nm, hnm⟩ : ∃ nm, n - 1 = nm := ⟨_, rfl⟩
  have hnmi : (n : Int) - 1 = (nm : Int) := by omega
  have hnm5 : 1 ≤ nm ∧ nm ≤ 4 := by omega
  have hnmn : (nm : Int) < (n : Int) := by omega
  go_loopw [10] (fun i wr => ∃ (k : Nat), k ≤ sc.length ∧ k ≤ 20 ∧ i = .int .i64 (k : Int) ∧ Hid (SilS W n gb pb pc rbs (2 * k) (k + 1) wr)) (fun i _ => 20 - (intOf i).toNat)
  case atStart => exact ⟨0, by omega, by omega, rfl, HST⟩
  case round =>
    clear HST
    obtain ⟨k, hk, hk20, rfl, HI⟩ := hrel
    obtain ⟨e0, e1⟩ := HI.out.cells
    by_cases hlt : k < sc.length ∧ k < 20
    · obtain ⟨hlt, hlt2⟩ := hlt
      have hki : (k : Int) < (sc.length : Int) := by omega
      have hki2 : (k : Int) < 20 := by omega
      have hact := (HA.out.below HI.out.old) k sc[k] (List.getElem?_eq_getElem hlt)
      have HAK : Hid (∀ w', Below W.heap.size W w' → ∃ b off, p = some ⟨b, off, none⟩ ∧ w'.cell? ⟨b, off + k * 4, none⟩ = some (.int .i64 sc[k].at_) ∧ w'.cell? ⟨b, off + k * 4 + 1, none⟩ = some (.int .i64 sc[k].what) ∧ w'.cell? ⟨b, off + k * 4 + 2, none⟩ = some (.int .i64 sc[k].word) ∧ w'.cell? ⟨b, off + k * 4 + 3, none⟩ = some (.int .i64 sc[k].count)) := fun w' hb => (HA.out.below hb) k sc[k] (List.getElem?_eq_getElem hlt)
      obtain ⟨b, off, hp, a0, a1, a2, a3⟩ := hact
      have hao := HOK.out sc[k] (List.getElem_mem hlt)
      obtain ⟨ho0, ho1, ho2, ho3⟩ := hao
      unfold I64 at ho0 ho1 ho2 ho3
      subst hp
      clear hl
      have hln : 0 < sc.length := by omega
      generalize sc[k] = o at *
      obtain ⟨oA, oW, oD, oC⟩ := o
      simp only at a0 a1 a2 a3 ho0 ho1 ho2 ho3 HAK
      have hpn : pickN oA nm < nm := by have : (pickN oA nm : Int) < nm := pickN_lt (by omega); omega
      have HPA : Hid (∀ w, Calls Tryz.prog 18 #[.int .i64 oA, .int .i64 (nm : Int)] w fun e w' => e = .returned (.int .i64 (pickN oA nm : Int)) ∧ w' = w) := fun w => HP.out oA nm w ho0 (by omega)
      obtain ⟨at_, hate⟩ : ∃ at_, 1 + pickN oA nm = at_ := ⟨_, rfl⟩
      have hati : 1 + (pickN oA nm : Int) = (at_ : Int) := by omega
      have hat : 1 ≤ at_ ∧ at_ < n := by omega
      have hatI : (at_ : Int) < (n : Int) := by omega
      have E1 := e1 _ hat.2
      have HR0 : Hid True := trivial
      go_upto_region 10 with (go_at_call 18; refine (HPA.out _).mono ?_; rintro e w' ⟨rfl, hw⟩; have hw' := hw.symm; clear hw; subst hw')
      (try simp only [hati])
      clear hate hati HPA hpn HR0
      have hk7 : pickN oW 7 < 7 := by have : (pickN oW 7 : Int) < 7 := pickN_lt (by omega); omega
      have hw3 : pickN oD 3 < 3 := by have : (pickN oD 3 : Int) < 3 := pickN_lt (by omega); omega
      have hc9 : pickN oC 9 < 9 := by have : (pickN oC 9 : Int) < 9 := pickN_lt (by omega); omega
      obtain ⟨hr, hsz⟩ := act_read hk7 hw3 hc9
      have HTX : Hid (∀ w, Calls Tryz.prog 24 #[.agg #[.int .i64 oA, .int .i64 oW, .int .i64 oD, .int .i64 oC]] w fun e w' => e = .returned (.string (actB (pickN oW 7) (pickN oD 3) (pickN oC 9))) ∧ Below w.heap.size w w') := fun w => actTextG w oA oW oD oC ho1 ho2 ho3
      generalize actB (pickN oW 7) (pickN oD 3) (pickN oC 9) = s at *
      generalize actC (pickN oW 7) (pickN oD 3) (pickN oC 9) = c at *
      obtain ⟨ra, hra⟩ : ∃ ra, rbs at_ = ra := ⟨_, rfl⟩
      obtain ⟨r0, hr0⟩ : ∃ r0, rbs 0 = r0 := ⟨_, rfl⟩
      rw [hra] at E1
      have HACT : Hid (∀ w', Below W.heap.size W w' → w'.cell? ⟨b, off + k * 4, none⟩ = some (.int .i64 oA) ∧ w'.cell? ⟨b, off + k * 4 + 1, none⟩ = some (.int .i64 oW) ∧ w'.cell? ⟨b, off + k * 4 + 2, none⟩ = some (.int .i64 oD) ∧ w'.cell? ⟨b, off + k * 4 + 3, none⟩ = some (.int .i64 oC)) := fun w' hb => by
        obtain ⟨b', off', hp', d0, d1, d2, d3⟩ := HAK.out w' hb
        obtain ⟨rfl, rfl⟩ : b = b' ∧ off = off' := by simpa using hp'
        exact ⟨d0, d1, d2, d3⟩
      have HT1 : Hid (∀ w, SilS W n gb pb pc rbs (2 * k) (k + 1) w → Calls Tryz.prog 24 #[.agg #[.int .i64 oA, .int .i64 oW, .int .i64 oD, .int .i64 oC]] w fun e w' => e = .returned (.string s) ∧ (fun w' : World => w'.cell? ⟨gb, 0, none⟩ = some (.slice (some ⟨pb, 0, none⟩) n pc) ∧ w'.cell? ⟨pb, at_, none⟩ = some (.pointer (some ⟨ra, 0, none⟩)) ∧ w'.cell? ⟨b, off + k * 4, none⟩ = some (.int .i64 oA) ∧ w'.cell? ⟨b, off + k * 4 + 1, none⟩ = some (.int .i64 oW) ∧ w'.cell? ⟨b, off + k * 4 + 2, none⟩ = some (.int .i64 oD) ∧ w'.cell? ⟨b, off + k * 4 + 3, none⟩ = some (.int .i64 oC)) w' ∧ Hid (SilS W n gb pb pc rbs (2 * k) (k + 1) w')) := fun w h => by
        refine (HTX.out w).mono ?_
        rintro e w' ⟨he, hb⟩
        have h' := h.below hb
        obtain ⟨u0, u1⟩ := h'.cells
        exact ⟨he, ⟨u0, by rw [← hra]; exact u1 at_ hat.2, HACT.out w' h'.old⟩, h'⟩
      have HD1 : Hid (∀ w, SilS W n gb pb pc rbs (2 * k) (k + 1) w → Calls Tryz.prog 20 #[.pointer (some ⟨ra, 0, none⟩), .string s] w fun e w' => ∃ v, e = .returned v ∧ (fun w' : World => w'.cell? ⟨gb, 0, none⟩ = some (.slice (some ⟨pb, 0, none⟩) n pc) ∧ w'.cell? ⟨pb, at_, none⟩ = some (.pointer (some ⟨ra, 0, none⟩)) ∧ w'.cell? ⟨b, off + k * 4, none⟩ = some (.int .i64 oA) ∧ w'.cell? ⟨b, off + k * 4 + 1, none⟩ = some (.int .i64 oW) ∧ w'.cell? ⟨b, off + k * 4 + 2, none⟩ = some (.int .i64 oD) ∧ w'.cell? ⟨b, off + k * 4 + 3, none⟩ = some (.int .i64 oC)) w' ∧ Hid (SilS W n gb pb pc rbs (2 * k) (k + 1 + 1) w')) := fun w h => by
        have hd := sil_do HG.out hat (by omega) s hsz hr h
        rw [hra] at hd
        refine hd.mono ?_
        rintro e w' ⟨z, he, h'⟩
        obtain ⟨u0, u1⟩ := h'.cells
        exact ⟨z, he, ⟨u0, by rw [← hra]; exact u1 at_ hat.2, HACT.out w' h'.old⟩, h'⟩
      have HK1 : Hid (∀ w, SilS W n gb pb pc rbs (2 * k) (k + 1 + 1) w → Calls Tryz.prog 25 #[.pointer (some ⟨ra, 0, none⟩)] w fun e w' => e = .returned (.tuple #[]) ∧ w'.cell? ⟨gb, 0, none⟩ = some (.slice (some ⟨pb, 0, none⟩) n pc) ∧ w'.cell? ⟨pb, 0, none⟩ = some (.pointer (some ⟨r0, 0, none⟩)) ∧ Hid (SilS W n gb pb pc rbs (2 * k + 1) (k + 1 + 1) w')) := fun w h => by
        have hd := sil_tick hat.2 (by omega) h
        rw [hra] at hd
        refine hd.mono ?_
        rintro e w' ⟨he, h'⟩
        obtain ⟨u0, u1⟩ := h'.cells
        exact ⟨he, u0, by rw [← hr0]; exact u1 0 (by omega), h'⟩
      have HK2 : Hid (∀ w, SilS W n gb pb pc rbs (2 * k + 1) (k + 1 + 1) w → Calls Tryz.prog 25 #[.pointer (some ⟨r0, 0, none⟩)] w fun e w' => e = .returned (.tuple #[]) ∧ Hid (SilS W n gb pb pc rbs (2 * k + 1 + 1) (k + 1 + 1) w')) := fun w h => by
        have hd := sil_tick (i := 0) (by omega) (by omega) h
        rw [hr0] at hd
        exact hd
      have HId : Hid (SilS W n gb pb pc rbs (2 * k) (k + 1) wr.drew) := HI.out.below (Below.refl _ wr).drew
      clear HTX HP HI HA HOK HRW
      have hS : (fun w' : World => w'.cell? ⟨gb, 0, none⟩ = some (.slice (some ⟨pb, 0, none⟩) n pc) ∧ w'.cell? ⟨pb, at_, none⟩ = some (.pointer (some ⟨ra, 0, none⟩)) ∧ w'.cell? ⟨b, off + k * 4, none⟩ = some (.int .i64 oA) ∧ w'.cell? ⟨b, off + k * 4 + 1, none⟩ = some (.int .i64 oW) ∧ w'.cell? ⟨b, off + k * 4 + 2, none⟩ = some (.int .i64 oD) ∧ w'.cell? ⟨b, off + k * 4 + 3, none⟩ = some (.int .i64 oC)) wr.drew := ⟨e0, E1, a0, a1, a2, a3⟩
      refine wp_region_held (S := (fun w' : World => w'.cell? ⟨gb, 0, none⟩ = some (.slice (some ⟨pb, 0, none⟩) n pc) ∧ w'.cell? ⟨pb, at_, none⟩ = some (.pointer (some ⟨ra, 0, none⟩)) ∧ w'.cell? ⟨b, off + k * 4, none⟩ = some (.int .i64 oA) ∧ w'.cell? ⟨b, off + k * 4 + 1, none⟩ = some (.int .i64 oW) ∧ w'.cell? ⟨b, off + k * 4 + 2, none⟩ = some (.int .i64 oD) ∧ w'.cell? ⟨b, off + k * 4 + 3, none⟩ = some (.int .i64 oC))) hmx ?_
      refine wpAnyH_take (i := 0) (v := (.pointer (some ⟨gb, 0, none⟩))) rfl (by kernel_rfl) (by kernel_rfl) (by kernel_rfl) (fun _ _ _ h => h) (Or.inl ⟨by rfl, ?_⟩) hS ?_
      · intro W hSw
        obtain ⟨s0, s1, s2, s3, s4, s5⟩ := hSw
        go_simp
      dsimp only [List.getElem_toArray, List.getElem_cons_zero, List.getElem_cons_succ]
      simp only [Act.put, List.setIfInBounds_toArray, List.set_cons_zero, List.set_cons_succ]
      refine wpAnyH_take (i := 1) (v := (.pointer (some ⟨gb, 0, none⟩))) rfl (by kernel_rfl) (by kernel_rfl) (by kernel_rfl) (fun _ _ _ h => h) (Or.inl ⟨by rfl, ?_⟩) hS ?_
      · intro W hSw
        obtain ⟨s0, s1, s2, s3, s4, s5⟩ := hSw
        go_simp
      dsimp only [List.getElem_toArray, List.getElem_cons_zero, List.getElem_cons_succ]
      simp only [Act.put, List.setIfInBounds_toArray, List.set_cons_zero, List.set_cons_succ]
      refine wpAnyH_take (i := 2) (v := (.pointer (some ⟨gb, 0, none⟩))) rfl (by kernel_rfl) (by kernel_rfl) (by kernel_rfl) (fun _ _ _ h => h) (Or.inl ⟨by rfl, ?_⟩) hS ?_
      · intro W hSw
        obtain ⟨s0, s1, s2, s3, s4, s5⟩ := hSw
        go_simp
      dsimp only [List.getElem_toArray, List.getElem_cons_zero, List.getElem_cons_succ]
      simp only [Act.put, List.setIfInBounds_toArray, List.set_cons_zero, List.set_cons_succ]
      refine wpAnyH_take (i := 3) (v := (.slice (some ⟨pb, 0, none⟩) n pc)) rfl (by kernel_rfl) (by kernel_rfl) (by kernel_rfl) (fun _ _ _ h => h) (Or.inl ⟨by rfl, ?_⟩) hS ?_
      · intro W hSw
        obtain ⟨s0, s1, s2, s3, s4, s5⟩ := hSw
        go_simp
      dsimp only [List.getElem_toArray, List.getElem_cons_zero, List.getElem_cons_succ]
      simp only [Act.put, List.setIfInBounds_toArray, List.set_cons_zero, List.set_cons_succ]
      refine wpAnyH_take (i := 4) (v := (.int .i64 (at_ : Int))) rfl (by kernel_rfl) (by kernel_rfl) (by kernel_rfl) (fun _ _ _ h => h) (Or.inl ⟨by rfl, ?_⟩) hS ?_
      · intro W hSw
        obtain ⟨s0, s1, s2, s3, s4, s5⟩ := hSw
        go_simp
      dsimp only [List.getElem_toArray, List.getElem_cons_zero, List.getElem_cons_succ]
      simp only [Act.put, List.setIfInBounds_toArray, List.set_cons_zero, List.set_cons_succ]
      refine wpAnyH_take (i := 5) (v := (.pointer (some ⟨pb, at_, none⟩))) rfl (by kernel_rfl) (by kernel_rfl) (by kernel_rfl) (fun _ _ _ h => h) (Or.inl ⟨by rfl, ?_⟩) hS ?_
      · intro W hSw
        obtain ⟨s0, s1, s2, s3, s4, s5⟩ := hSw
        go_simp
        all_goals (try (intro hz; omega))
      dsimp only [List.getElem_toArray, List.getElem_cons_zero, List.getElem_cons_succ]
      simp only [Act.put, List.setIfInBounds_toArray, List.set_cons_zero, List.set_cons_succ]
      refine wpAnyH_take (i := 6) (v := (.pointer (some ⟨ra, 0, none⟩))) rfl (by kernel_rfl) (by kernel_rfl) (by kernel_rfl) (fun _ _ _ h => h) (Or.inl ⟨by rfl, ?_⟩) hS ?_
      · intro W hSw
        obtain ⟨s0, s1, s2, s3, s4, s5⟩ := hSw
        go_simp
      dsimp only [List.getElem_toArray, List.getElem_cons_zero, List.getElem_cons_succ]
      simp only [Act.put, List.setIfInBounds_toArray, List.set_cons_zero, List.set_cons_succ]
      refine wpAnyH_take (i := 7) (v := (.slice (some ⟨b, off, none⟩) sc.length cap)) rfl (by kernel_rfl) (by kernel_rfl) (by kernel_rfl) (fun _ _ _ h => h) (Or.inl ⟨by rfl, ?_⟩) hS ?_
      · intro W hSw
        obtain ⟨s0, s1, s2, s3, s4, s5⟩ := hSw
        go_simp
      dsimp only [List.getElem_toArray, List.getElem_cons_zero, List.getElem_cons_succ]
      simp only [Act.put, List.setIfInBounds_toArray, List.set_cons_zero, List.set_cons_succ]
      refine wpAnyH_take (i := 8) (v := (.int .i64 (k : Int))) rfl (by kernel_rfl) (by kernel_rfl) (by kernel_rfl) (fun _ _ _ h => h) (Or.inl ⟨by rfl, ?_⟩) hS ?_
      · intro W hSw
        obtain ⟨s0, s1, s2, s3, s4, s5⟩ := hSw
        go_simp
      dsimp only [List.getElem_toArray, List.getElem_cons_zero, List.getElem_cons_succ]
      simp only [Act.put, List.setIfInBounds_toArray, List.set_cons_zero, List.set_cons_succ]
      refine wpAnyH_take (i := 9) (v := (.pointer (some ⟨b, off + k * 4, none⟩))) rfl (by kernel_rfl) (by kernel_rfl) (by kernel_rfl) (fun _ _ _ h => h) (Or.inl ⟨by rfl, ?_⟩) hS ?_
      · intro W hSw
        obtain ⟨s0, s1, s2, s3, s4, s5⟩ := hSw
        go_simp
        all_goals (try (intro hz; omega))
      dsimp only [List.getElem_toArray, List.getElem_cons_zero, List.getElem_cons_succ]
      simp only [Act.put, List.setIfInBounds_toArray, List.set_cons_zero, List.set_cons_succ]
      refine wpAnyH_take (i := 10) (v := (.agg #[.int .i64 oA, .int .i64 oW, .int .i64 oD, .int .i64 oC])) rfl (by kernel_rfl) (by kernel_rfl) (by kernel_rfl) (fun _ _ _ h => h) (Or.inl ⟨by rfl, ?_⟩) hS ?_
      · intro W hSw
        obtain ⟨s0, s1, s2, s3, s4, s5⟩ := hSw
        go_simp
      dsimp only [List.getElem_toArray, List.getElem_cons_zero, List.getElem_cons_succ]
      simp only [Act.put, List.setIfInBounds_toArray, List.set_cons_zero, List.set_cons_succ]
      refine wpAnyH_ready (rs := [11]) (by kernel_rfl) (by simp) ?_
      refine AllReadyH.cons rfl (fun K hK => ?_) AllReadyH.nil
      rw [if_pos (by rfl)]
      dsimp only [List.getElem_toArray, List.getElem_cons_zero, List.getElem_cons_succ]
      go_simp
      refine (HT1.out _ HId.out).mono ?_
      rintro e w3 ⟨rfl, hS3, H3⟩
      refine hK.out _ _ hS3 (fun _ => ?_)
      clear hK K
      try simp only [Act.put, List.setIfInBounds_toArray, List.set_cons_zero, List.set_cons_succ]
      refine wpAnyH_ready (rs := [12]) (by kernel_rfl) (by simp) ?_
      refine AllReadyH.cons rfl (fun K hK => ?_) AllReadyH.nil
      rw [if_pos (by rfl)]
      dsimp only [List.getElem_toArray, List.getElem_cons_zero, List.getElem_cons_succ]
      go_simp
      refine (HD1.out _ H3.out).mono ?_
      rintro e w4 ⟨z, rfl, hS4, H4⟩
      refine hK.out _ _ hS4 (fun _ => ?_)
      clear hK K
      try simp only [Act.put, List.setIfInBounds_toArray, List.set_cons_zero, List.set_cons_succ]
      refine wpAnyH_done (by kernel_rfl) ?_ _
      clear hS HT1 HD1 HId
      obtain ⟨y0, y1, -, -, -, -⟩ := hS4
      have hn0 : (0 : Int) < (n : Int) := by omega
      go_wp2_with (first
        | (go_at_call 25; refine (HK2.out _ H5.out).mono ?_; rintro e w6 ⟨rfl, H6⟩)
        | (go_at_call 25; refine (HK1.out _ H4.out).mono ?_; rintro e w5 ⟨rfl, x0, x1, H5⟩))
      go_roundw
      case rel => exact ⟨k + 1, by omega, by omega, by simp, by have h := H6.out; rw [show 2 * k + 1 + 1 = 2 * (k + 1) by omega] at h; exact h⟩
      case measure => simp [intOf]; omega
    · obtain ⟨r0, hr0⟩ : ∃ r0, rbs 0 = r0 := ⟨_, rfl⟩
      obtain ⟨r1, hr1⟩ : ∃ r1, rbs 1 = r1 := ⟨_, rfl⟩
      obtain ⟨rl, hrl'⟩ : ∃ rl, rbs nm = rl := ⟨_, rfl⟩
      have E1 := e1 0 (by omega)
      rw [hr0] at E1
      have hn0 : (0 : Int) < (n : Int) := by omega
      have hn1 : (1 : Int) < (n : Int) := by omega
      have CE : Hid (∀ (w : World), SilS W n gb pb pc rbs (2 * k) (k + 1) w → w.cell? ⟨gb, 0, none⟩ = some (.slice (some ⟨pb, 0, none⟩) n pc) ∧ w.cell? ⟨pb, 0, none⟩ = some (.pointer (some ⟨r0, 0, none⟩)) ∧ w.cell? ⟨pb, 1, none⟩ = some (.pointer (some ⟨r1, 0, none⟩))) := fun w h => by
        obtain ⟨u0, u1⟩ := h.cells
        exact ⟨u0, by rw [← hr0]; exact u1 0 (by omega), by rw [← hr1]; exact u1 1 (by omega)⟩
      have HKN : Hid (Calls Tryz.prog 28 #[.pointer (some ⟨r0, 0, none⟩)] wr fun e w' => ∃ p c, e = .returned (.slice p 0 c) ∧ w'.cell? ⟨gb, 0, none⟩ = some (.slice (some ⟨pb, 0, none⟩) n pc) ∧ w'.cell? ⟨pb, 0, none⟩ = some (.pointer (some ⟨r0, 0, none⟩)) ∧ Hid (SilS W n gb pb pc rbs (2 * k) (k + 1) w')) := by
        have hd := sil_known0 HG.out HI.out
        rw [hr0] at hd
        refine hd.mono ?_
        rintro e w' ⟨p, c, he, h'⟩
        exact ⟨p, c, he, (CE.out w' h').1, (CE.out w' h').2.1, h'⟩
      have HVW : Hid (∀ w, SilS W n gb pb pc rbs (2 * k) (k + 1) w → Calls Tryz.prog 23 #[.pointer (some ⟨r0, 0, none⟩)] w fun e w' => e = .returned (.string ⟨#[]⟩) ∧ w'.cell? ⟨gb, 0, none⟩ = some (.slice (some ⟨pb, 0, none⟩) n pc) ∧ w'.cell? ⟨pb, 1, none⟩ = some (.pointer (some ⟨r1, 0, none⟩)) ∧ Hid (SilS W n gb pb pc rbs (2 * k) (k + 1) w')) := fun w h => by
        have hd := sil_view0 HG.out h
        rw [hr0] at hd
        refine hd.mono ?_
        rintro e w' ⟨he, h'⟩
        exact ⟨he, (CE.out w' h').1, (CE.out w' h').2.2, h'⟩
      have HFR : Hid (∀ w, SilS W n gb pb pc rbs (2 * k) (k + 1) w → Calls Tryz.prog 29 #[.pointer (some ⟨r1, 0, none⟩)] w fun e w' => ∃ p m c, e = .returned (.slice p m c) ∧ m ≤ 65 ∧ Hid (SilF W n gb pb pc rbs (2 * k) p m c w')) := fun w h => by
        have hd := sil_frames HG.out h
        rw [hr1] at hd
        exact hd
      have HRK : Hid (∀ w p m c, SilF W n gb pb pc rbs (2 * k) p m c w → Calls Tryz.prog 28 #[.pointer (some ⟨r0, 0, none⟩)] w fun e w' => ∃ p2 m2 c2, e = .returned (.slice p2 m2 c2) ∧ m2 ≤ 50 ∧ Hid ((∀ j, j < m2 → ∃ b, p2 = some ⟨b, 0, none⟩ ∧ w'.cell? ⟨b, j * 3, none⟩ = some (.int .i64 1) ∧ w'.cell? ⟨b, j * 3 + 1, none⟩ = some (.int .i64 ((j : Int) + 1))) ∧ OneR W n gb pb pc rl 1000 50 w')) := fun w p m c h => by
        have hd := sil_known HG.out (by omega) h
        rw [hnm, hr0, hrl'] at hd
        exact hd
      clear HI HA HOK hl e1
      by_cases h1 : k < sc.length
      · have hki : (k : Int) < (sc.length : Int) := by omega
        have hki2 : ¬ (k : Int) < 20 := by omega
        go_wp2_with (first
          | (go_at_call 29; refine (HFR.out _ H8.out).mono ?_; rintro e w9 ⟨pF, mF, cF, rfl, hmF, HF⟩)
          | (go_at_call 23; refine (HVW.out _ H7.out).mono ?_; rintro e w8 ⟨rfl, g0, g1, H8⟩)
          | (go_at_call 28; refine HKN.out.mono ?_; rintro e w7 ⟨pk, ck, rfl, f0, f1, H7⟩))
        clear HFR HVW HKN H7 H8 g0 g1 f0 f1 e0 E1 CE
        go_loopw [15] (fun i wr => ∃ (j : Nat), j ≤ mF ∧ i = .int .i64 (j : Int) ∧ Hid (SilF W n gb pb pc rbs (2 * k) pF mF cF wr)) (fun i _ => mF - (intOf i).toNat)
        case atStart => exact ⟨0, by omega, rfl, HF⟩
        case round =>
          clear HF
          obtain ⟨j, hj, rfl, HJ⟩ := hrel
          obtain ⟨u0, u1⟩ := HJ.out.cells
          have U1 := u1 0 (by omega)
          rw [hr0] at U1
          clear u1
          by_cases hjl : j < mF
          · have hji : (j : Int) < (mF : Int) := by omega
            obtain ⟨b, ot, q, l, cq, rfl, x0, x1, hcm⟩ := sil_out HG.out HJ.out hjl
            by_cases h0 : ot = 0
            · subst h0
              have HCM : Hid (∀ W', Below wr.heap.size wr W' → Calls Tryz.prog 30 #[.pointer (some ⟨r0, 0, none⟩), .int .i64 1, .slice q l cq] W' fun e w' => e = .returned (.tuple #[]) ∧ (fun w' : World => w'.cell? ⟨gb, 0, none⟩ = some (.slice (some ⟨pb, 0, none⟩) n pc) ∧ w'.cell? ⟨pb, 0, none⟩ = some (.pointer (some ⟨r0, 0, none⟩)) ∧ w'.cell? ⟨b, j * 2 + 1, none⟩ = some (.slice q l cq)) w' ∧ Hid (SilF W n gb pb pc rbs (2 * k) (some ⟨b, 0, none⟩) mF cF w')) := fun W' hW => by
                have := hcm rfl W' hW
                rw [hr0] at this
                refine this.mono ?_
                rintro e w' ⟨he, h1, h2⟩
                obtain ⟨v0, v1⟩ := h2.cells
                exact ⟨he, ⟨v0, by rw [← hr0]; exact v1 0 (by omega), h1⟩, h2⟩
              clear hcm HJ
              go_upto_region 22 with fail
              have hS : (fun w' : World => w'.cell? ⟨gb, 0, none⟩ = some (.slice (some ⟨pb, 0, none⟩) n pc) ∧ w'.cell? ⟨pb, 0, none⟩ = some (.pointer (some ⟨r0, 0, none⟩)) ∧ w'.cell? ⟨b, j * 2 + 1, none⟩ = some (.slice q l cq)) wr.drew := ⟨u0, U1, x1⟩
              refine wp_region_held (S := (fun w' : World => w'.cell? ⟨gb, 0, none⟩ = some (.slice (some ⟨pb, 0, none⟩) n pc) ∧ w'.cell? ⟨pb, 0, none⟩ = some (.pointer (some ⟨r0, 0, none⟩)) ∧ w'.cell? ⟨b, j * 2 + 1, none⟩ = some (.slice q l cq))) hmx ?_
              refine wpAnyH_take (i := 0) (v := (.pointer (some ⟨gb, 0, none⟩))) rfl (by kernel_rfl) (by kernel_rfl) (by kernel_rfl) (fun _ _ _ h => h) (Or.inl ⟨by rfl, ?_⟩) hS ?_
              · intro W hSw
                obtain ⟨s0, s1, s2⟩ := hSw
                go_simp
              dsimp only [List.getElem_toArray, List.getElem_cons_zero, List.getElem_cons_succ]
              simp only [Act.put, List.setIfInBounds_toArray, List.set_cons_zero, List.set_cons_succ]
              refine wpAnyH_take (i := 1) (v := (.pointer (some ⟨gb, 0, none⟩))) rfl (by kernel_rfl) (by kernel_rfl) (by kernel_rfl) (fun _ _ _ h => h) (Or.inl ⟨by rfl, ?_⟩) hS ?_
              · intro W hSw
                obtain ⟨s0, s1, s2⟩ := hSw
                go_simp
              dsimp only [List.getElem_toArray, List.getElem_cons_zero, List.getElem_cons_succ]
              simp only [Act.put, List.setIfInBounds_toArray, List.set_cons_zero, List.set_cons_succ]
              refine wpAnyH_take (i := 2) (v := (.pointer (some ⟨gb, 0, none⟩))) rfl (by kernel_rfl) (by kernel_rfl) (by kernel_rfl) (fun _ _ _ h => h) (Or.inl ⟨by rfl, ?_⟩) hS ?_
              · intro W hSw
                obtain ⟨s0, s1, s2⟩ := hSw
                go_simp
              dsimp only [List.getElem_toArray, List.getElem_cons_zero, List.getElem_cons_succ]
              simp only [Act.put, List.setIfInBounds_toArray, List.set_cons_zero, List.set_cons_succ]
              refine wpAnyH_take (i := 3) (v := (.slice (some ⟨pb, 0, none⟩) n pc)) rfl (by kernel_rfl) (by kernel_rfl) (by kernel_rfl) (fun _ _ _ h => h) (Or.inl ⟨by rfl, ?_⟩) hS ?_
              · intro W hSw
                obtain ⟨s0, s1, s2⟩ := hSw
                go_simp
              dsimp only [List.getElem_toArray, List.getElem_cons_zero, List.getElem_cons_succ]
              simp only [Act.put, List.setIfInBounds_toArray, List.set_cons_zero, List.set_cons_succ]
              refine wpAnyH_take (i := 4) (v := (.pointer (some ⟨pb, 0, none⟩))) rfl (by kernel_rfl) (by kernel_rfl) (by kernel_rfl) (fun _ _ _ h => h) (Or.inl ⟨by rfl, ?_⟩) hS ?_
              · intro W hSw
                obtain ⟨s0, s1, s2⟩ := hSw
                go_simp
                all_goals (try (intro hz; omega))
              dsimp only [List.getElem_toArray, List.getElem_cons_zero, List.getElem_cons_succ]
              simp only [Act.put, List.setIfInBounds_toArray, List.set_cons_zero, List.set_cons_succ]
              refine wpAnyH_take (i := 5) (v := (.pointer (some ⟨r0, 0, none⟩))) rfl (by kernel_rfl) (by kernel_rfl) (by kernel_rfl) (fun _ _ _ h => h) (Or.inl ⟨by rfl, ?_⟩) hS ?_
              · intro W hSw
                obtain ⟨s0, s1, s2⟩ := hSw
                go_simp
              dsimp only [List.getElem_toArray, List.getElem_cons_zero, List.getElem_cons_succ]
              simp only [Act.put, List.setIfInBounds_toArray, List.set_cons_zero, List.set_cons_succ]
              refine wpAnyH_take (i := 6) (v := (.slice (some ⟨b, 0, none⟩) mF cF)) rfl (by kernel_rfl) (by kernel_rfl) (by kernel_rfl) (fun _ _ _ h => h) (Or.inl ⟨by rfl, ?_⟩) hS ?_
              · intro W hSw
                obtain ⟨s0, s1, s2⟩ := hSw
                go_simp
              dsimp only [List.getElem_toArray, List.getElem_cons_zero, List.getElem_cons_succ]
              simp only [Act.put, List.setIfInBounds_toArray, List.set_cons_zero, List.set_cons_succ]
              refine wpAnyH_take (i := 7) (v := (.int .i64 (j : Int))) rfl (by kernel_rfl) (by kernel_rfl) (by kernel_rfl) (fun _ _ _ h => h) (Or.inl ⟨by rfl, ?_⟩) hS ?_
              · intro W hSw
                obtain ⟨s0, s1, s2⟩ := hSw
                go_simp
              dsimp only [List.getElem_toArray, List.getElem_cons_zero, List.getElem_cons_succ]
              simp only [Act.put, List.setIfInBounds_toArray, List.set_cons_zero, List.set_cons_succ]
              refine wpAnyH_take (i := 8) (v := (.pointer (some ⟨b, j * 2, none⟩))) rfl (by kernel_rfl) (by kernel_rfl) (by kernel_rfl) (fun _ _ _ h => h) (Or.inl ⟨by rfl, ?_⟩) hS ?_
              · intro W hSw
                obtain ⟨s0, s1, s2⟩ := hSw
                go_simp
                all_goals (try (intro hz; omega))
              dsimp only [List.getElem_toArray, List.getElem_cons_zero, List.getElem_cons_succ]
              simp only [Act.put, List.setIfInBounds_toArray, List.set_cons_zero, List.set_cons_succ]
              refine wpAnyH_take (i := 9) (v := (.pointer (some ⟨b, j * 2 + 1, none⟩))) rfl (by kernel_rfl) (by kernel_rfl) (by kernel_rfl) (fun _ _ _ h => h) (Or.inl ⟨by rfl, ?_⟩) hS ?_
              · intro W hSw
                obtain ⟨s0, s1, s2⟩ := hSw
                go_simp
              dsimp only [List.getElem_toArray, List.getElem_cons_zero, List.getElem_cons_succ]
              simp only [Act.put, List.setIfInBounds_toArray, List.set_cons_zero, List.set_cons_succ]
              refine wpAnyH_take (i := 10) (v := (.slice q l cq)) rfl (by kernel_rfl) (by kernel_rfl) (by kernel_rfl) (fun _ _ _ h => h) (Or.inl ⟨by rfl, ?_⟩) hS ?_
              · intro W hSw
                obtain ⟨s0, s1, s2⟩ := hSw
                go_simp
              dsimp only [List.getElem_toArray, List.getElem_cons_zero, List.getElem_cons_succ]
              simp only [Act.put, List.setIfInBounds_toArray, List.set_cons_zero, List.set_cons_succ]
              refine wpAnyH_ready (rs := [11]) (by kernel_rfl) (by simp) ?_
              refine AllReadyH.cons rfl (fun K hK => ?_) AllReadyH.nil
              rw [if_pos (by rfl)]
              dsimp only [List.getElem_toArray, List.getElem_cons_zero, List.getElem_cons_succ]
              go_simp
              refine (HCM.out _ (Below.refl _ _).drew).mono ?_
              rintro e w5 ⟨rfl, hS5, H5⟩
              refine hK.out _ _ hS5 (fun _ => ?_)
              clear hK K
              try simp only [Act.put, List.setIfInBounds_toArray, List.set_cons_zero, List.set_cons_succ]
              refine wpAnyH_done (by kernel_rfl) ?_ _
              clear hS HCM
              go_wp2
              go_roundw
              case rel => exact ⟨j + 1, by omega, by simp, H5⟩
              case measure => simp [intOf]; omega
            · have hne : ¬ ((ot : Int) = 0) := by omega
              clear hcm
              go_wp2
              go_roundw
              case rel => exact ⟨j + 1, by omega, by simp, HJ⟩
              case measure => simp [intOf]; omega
          · have hji : ¬ (j : Int) < (mF : Int) := by omega
            go_upto_region 24 with (go_at_call 28; refine (HRK.out _ _ _ _ HJ.out).mono ?_; rintro e wk ⟨pA, mA, cA, rfl, hmA, HK⟩)
            clear HJ HRK u0 U1
            go_wp2
            go_loopw [17] (fun i wr => ∃ (j : Nat), j ≤ mA ∧ i = .int .i64 (j : Int) ∧ wr = wk) (fun i _ => mA - (intOf i).toNat)
            case atStart => exact ⟨0, by omega, rfl, rfl⟩
            case round =>
              obtain ⟨j2, hj2, rfl, hwr⟩ := hrel
              subst hwr
              by_cases hjl2 : j2 < mA
              · have hji2 : (j2 : Int) < (mA : Int) := by omega
                obtain ⟨b, rfl, x0, x1⟩ := HK.out.1 j2 hjl2
                go_wp2
                go_roundw
                case rel => exact ⟨j2 + 1, by omega, by simp, by first | trivial | rfl⟩
                case measure => simp [intOf]; omega
              · have hji2 : ¬ (j2 : Int) < (mA : Int) := by omega
                have HS4 : Hid (OneR W n gb pb pc rl 1000 (50 + 201 * 0) wr) := HK.out.2
                clear HK
                go_wp2
                go_loopw [18] (fun i w5 => ∃ (j : Nat), j ≤ rs.length ∧ i = .int .i64 (j : Int) ∧ Hid (OneR W n gb pb pc rl 1000 (50 + 201 * j) w5)) (fun i _ => rs.length - (intOf i).toNat)
                case atStart => exact ⟨0, by omega, rfl, HS4⟩
                case round =>
                  clear HS4
                  obtain ⟨j5, hj5, rfl, HL⟩ := hrel
                  obtain ⟨v0, v1⟩ := HL.out.cells
                  rw [hnm] at v1
                  by_cases hjl5 : j5 < rs.length
                  · have hji5 : (j5 : Int) < (rs.length : Int) := by omega
                    obtain ⟨br, orf, hpr, y0, y1, y2, y3, y4⟩ := HRW.out j5 rs[j5] (List.getElem?_eq_getElem hjl5)
                    have HY : Hid (∀ w', Below W.heap.size W w' → w'.cell? ⟨br, orf + j5, none⟩ = some (.slice rs[j5].1 rs[j5].2.2.length rs[j5].2.1)) := fun w' hb => (World.cell?_of_block (a := ⟨br, orf + j5, none⟩) (hb.block br (World.block_lt_of_cell? W _ y0))).trans y0
                    have hmF' : 0 < rs.length := by omega
                    subst hpr
                    obtain ⟨np, hnp⟩ : ∃ np, n + 1 = np := ⟨_, rfl⟩
                    have hnpi : (n : Int) + 1 = (np : Int) := by omega
                    have HPJ : Hid (∀ w, Calls Tryz.prog 18 #[.int .i64 (j5 : Int), .int .i64 (np : Int)] w fun e w' => e = .returned (.int .i64 (pickN (j5 : Int) (np : Int) : Int)) ∧ w' = w) := fun w => HP.out (j5 : Int) (np : Int) w (by omega) (by omega)
                    have hpj : pickN (j5 : Int) (np : Int) < np := by have : (pickN (j5 : Int) (np : Int) : Int) < np := pickN_lt (by omega); omega
                    have HRC : Hid (∀ fr w, OneR W n gb pb pc rl 1000 (50 + 201 * j5) w → Calls Tryz.prog 30 #[.pointer (some ⟨rl, 0, none⟩), .int .i64 fr, .slice rs[j5].1 rs[j5].2.2.length rs[j5].2.1] w fun e w' => e = .returned (.tuple #[]) ∧ (w'.cell? ⟨gb, 0, none⟩ = some (.slice (some ⟨pb, 0, none⟩) n pc) ∧ w'.cell? ⟨pb, nm, none⟩ = some (.pointer (some ⟨rl, 0, none⟩)) ∧ w'.cell? ⟨br, orf + j5, none⟩ = some (.slice rs[j5].1 rs[j5].2.2.length rs[j5].2.1)) ∧ Hid (OneR W n gb pb pc rl 1000 (50 + 201 * j5 + 201) w')) := fun fr w h => by
                      refine (one_recv HG.out h (by omega) _ _ _ y2 (by omega) y3 y1 fr).mono ?_
                      rintro e w' ⟨he, h'⟩
                      obtain ⟨c0, c1⟩ := h'.cells
                      rw [hnm] at c1
                      exact ⟨he, ⟨c0, c1, HY.out w' h'.old⟩, h'⟩
                    have HLd : Hid (OneR W n gb pb pc rl 1000 (50 + 201 * j5) wr.drew) := HL.out.below (Below.refl _ _).drew (Nat.le_refl _)
                    have z0 := HY.out _ HL.out.old
                    clear y0 y1 y2 y3 y4 HL HY HP
                    generalize rs[j5].1 = pr at *
                    generalize rs[j5].2.1 = cr at *
                    generalize rs[j5].2.2.length = lr at *
                    generalize pickN (j5 : Int) (np : Int) = pj at *
                    go_upto_region 32 with fail
                    have hS : (fun w' : World => w'.cell? ⟨gb, 0, none⟩ = some (.slice (some ⟨pb, 0, none⟩) n pc) ∧ w'.cell? ⟨pb, nm, none⟩ = some (.pointer (some ⟨rl, 0, none⟩)) ∧ w'.cell? ⟨br, orf + j5, none⟩ = some (.slice pr lr cr)) wr.drew := ⟨v0, v1, z0⟩
                    refine wp_region_held (S := (fun w' : World => w'.cell? ⟨gb, 0, none⟩ = some (.slice (some ⟨pb, 0, none⟩) n pc) ∧ w'.cell? ⟨pb, nm, none⟩ = some (.pointer (some ⟨rl, 0, none⟩)) ∧ w'.cell? ⟨br, orf + j5, none⟩ = some (.slice pr lr cr))) hmx ?_
                    refine wpAnyH_take (i := 0) (v := (.pointer (some ⟨gb, 0, none⟩))) rfl (by kernel_rfl) (by kernel_rfl) (by kernel_rfl) (fun _ _ _ h => h) (Or.inl ⟨by rfl, ?_⟩) hS ?_
                    · intro W hSw
                      obtain ⟨s0, s1, s2⟩ := hSw
                      go_simp
                    dsimp only [List.getElem_toArray, List.getElem_cons_zero, List.getElem_cons_succ]
                    simp only [Act.put, List.setIfInBounds_toArray, List.set_cons_zero, List.set_cons_succ]
                    refine wpAnyH_take (i := 1) (v := (.pointer (some ⟨gb, 0, none⟩))) rfl (by kernel_rfl) (by kernel_rfl) (by kernel_rfl) (fun _ _ _ h => h) (Or.inl ⟨by rfl, ?_⟩) hS ?_
                    · intro W hSw
                      obtain ⟨s0, s1, s2⟩ := hSw
                      go_simp
                    dsimp only [List.getElem_toArray, List.getElem_cons_zero, List.getElem_cons_succ]
                    simp only [Act.put, List.setIfInBounds_toArray, List.set_cons_zero, List.set_cons_succ]
                    refine wpAnyH_take (i := 2) (v := (.pointer (some ⟨gb, 0, none⟩))) rfl (by kernel_rfl) (by kernel_rfl) (by kernel_rfl) (fun _ _ _ h => h) (Or.inl ⟨by rfl, ?_⟩) hS ?_
                    · intro W hSw
                      obtain ⟨s0, s1, s2⟩ := hSw
                      go_simp
                    dsimp only [List.getElem_toArray, List.getElem_cons_zero, List.getElem_cons_succ]
                    simp only [Act.put, List.setIfInBounds_toArray, List.set_cons_zero, List.set_cons_succ]
                    refine wpAnyH_take (i := 3) (v := (.slice (some ⟨pb, 0, none⟩) n pc)) rfl (by kernel_rfl) (by kernel_rfl) (by kernel_rfl) (fun _ _ _ h => h) (Or.inl ⟨by rfl, ?_⟩) hS ?_
                    · intro W hSw
                      obtain ⟨s0, s1, s2⟩ := hSw
                      go_simp
                    dsimp only [List.getElem_toArray, List.getElem_cons_zero, List.getElem_cons_succ]
                    simp only [Act.put, List.setIfInBounds_toArray, List.set_cons_zero, List.set_cons_succ]
                    refine wpAnyH_take (i := 4) (v := (.int .i64 (n : Int))) rfl (by kernel_rfl) (by kernel_rfl) (by kernel_rfl) (fun _ _ _ h => h) (Or.inl ⟨by rfl, ?_⟩) hS ?_
                    · intro W hSw
                      obtain ⟨s0, s1, s2⟩ := hSw
                      go_simp
                    dsimp only [List.getElem_toArray, List.getElem_cons_zero, List.getElem_cons_succ]
                    simp only [Act.put, List.setIfInBounds_toArray, List.set_cons_zero, List.set_cons_succ]
                    refine wpAnyH_take (i := 5) (v := (.int .i64 (nm : Int))) rfl (by kernel_rfl) (by kernel_rfl) (by kernel_rfl) (fun _ _ _ h => h) (Or.inl ⟨by rfl, ?_⟩) hS ?_
                    · intro W hSw
                      obtain ⟨s0, s1, s2⟩ := hSw
                      go_simp
                      all_goals (try (rw [IntKind.wrap_i64]; omega))
                    dsimp only [List.getElem_toArray, List.getElem_cons_zero, List.getElem_cons_succ]
                    simp only [Act.put, List.setIfInBounds_toArray, List.set_cons_zero, List.set_cons_succ]
                    refine wpAnyH_take (i := 6) (v := (.pointer (some ⟨pb, nm, none⟩))) rfl (by kernel_rfl) (by kernel_rfl) (by kernel_rfl) (fun _ _ _ h => h) (Or.inl ⟨by rfl, ?_⟩) hS ?_
                    · intro W hSw
                      obtain ⟨s0, s1, s2⟩ := hSw
                      go_simp
                      all_goals (try (intro hz; omega))
                    dsimp only [List.getElem_toArray, List.getElem_cons_zero, List.getElem_cons_succ]
                    simp only [Act.put, List.setIfInBounds_toArray, List.set_cons_zero, List.set_cons_succ]
                    refine wpAnyH_take (i := 7) (v := (.pointer (some ⟨rl, 0, none⟩))) rfl (by kernel_rfl) (by kernel_rfl) (by kernel_rfl) (fun _ _ _ h => h) (Or.inl ⟨by rfl, ?_⟩) hS ?_
                    · intro W hSw
                      obtain ⟨s0, s1, s2⟩ := hSw
                      go_simp
                    dsimp only [List.getElem_toArray, List.getElem_cons_zero, List.getElem_cons_succ]
                    simp only [Act.put, List.setIfInBounds_toArray, List.set_cons_zero, List.set_cons_succ]
                    refine wpAnyH_take (i := 8) (v := (.int .i64 (j5 : Int))) rfl (by kernel_rfl) (by kernel_rfl) (by kernel_rfl) (fun _ _ _ h => h) (Or.inl ⟨by rfl, ?_⟩) hS ?_
                    · intro W hSw
                      obtain ⟨s0, s1, s2⟩ := hSw
                      go_simp
                    dsimp only [List.getElem_toArray, List.getElem_cons_zero, List.getElem_cons_succ]
                    simp only [Act.put, List.setIfInBounds_toArray, List.set_cons_zero, List.set_cons_succ]
                    refine wpAnyH_take (i := 9) (v := (.int .i64 (n : Int))) rfl (by kernel_rfl) (by kernel_rfl) (by kernel_rfl) (fun _ _ _ h => h) (Or.inl ⟨by rfl, ?_⟩) hS ?_
                    · intro W hSw
                      obtain ⟨s0, s1, s2⟩ := hSw
                      go_simp
                    dsimp only [List.getElem_toArray, List.getElem_cons_zero, List.getElem_cons_succ]
                    simp only [Act.put, List.setIfInBounds_toArray, List.set_cons_zero, List.set_cons_succ]
                    refine wpAnyH_take (i := 10) (v := (.int .i64 (np : Int))) rfl (by kernel_rfl) (by kernel_rfl) (by kernel_rfl) (fun _ _ _ h => h) (Or.inl ⟨by rfl, ?_⟩) hS ?_
                    · intro W hSw
                      obtain ⟨s0, s1, s2⟩ := hSw
                      go_simp
                      all_goals (try (rw [IntKind.wrap_i64]; omega))
                    dsimp only [List.getElem_toArray, List.getElem_cons_zero, List.getElem_cons_succ]
                    simp only [Act.put, List.setIfInBounds_toArray, List.set_cons_zero, List.set_cons_succ]
                    refine wpAnyH_take (i := 13) (v := (.slice (some ⟨br, orf, none⟩) rs.length cap9)) rfl (by kernel_rfl) (by kernel_rfl) (by kernel_rfl) (fun _ _ _ h => h) (Or.inl ⟨by rfl, ?_⟩) hS ?_
                    · intro W hSw
                      obtain ⟨s0, s1, s2⟩ := hSw
                      go_simp
                    dsimp only [List.getElem_toArray, List.getElem_cons_zero, List.getElem_cons_succ]
                    simp only [Act.put, List.setIfInBounds_toArray, List.set_cons_zero, List.set_cons_succ]
                    refine wpAnyH_take (i := 14) (v := (.int .i64 (j5 : Int))) rfl (by kernel_rfl) (by kernel_rfl) (by kernel_rfl) (fun _ _ _ h => h) (Or.inl ⟨by rfl, ?_⟩) hS ?_
                    · intro W hSw
                      obtain ⟨s0, s1, s2⟩ := hSw
                      go_simp
                    dsimp only [List.getElem_toArray, List.getElem_cons_zero, List.getElem_cons_succ]
                    simp only [Act.put, List.setIfInBounds_toArray, List.set_cons_zero, List.set_cons_succ]
                    refine wpAnyH_take (i := 15) (v := (.pointer (some ⟨br, orf + j5, none⟩))) rfl (by kernel_rfl) (by kernel_rfl) (by kernel_rfl) (fun _ _ _ h => h) (Or.inl ⟨by rfl, ?_⟩) hS ?_
                    · intro W hSw
                      obtain ⟨s0, s1, s2⟩ := hSw
                      go_simp
                      all_goals (try (intro hz; omega))
                    dsimp only [List.getElem_toArray, List.getElem_cons_zero, List.getElem_cons_succ]
                    simp only [Act.put, List.setIfInBounds_toArray, List.set_cons_zero, List.set_cons_succ]
                    refine wpAnyH_take (i := 16) (v := (.slice pr lr cr)) rfl (by kernel_rfl) (by kernel_rfl) (by kernel_rfl) (fun _ _ _ h => h) (Or.inl ⟨by rfl, ?_⟩) hS ?_
                    · intro W hSw
                      obtain ⟨s0, s1, s2⟩ := hSw
                      go_simp
                    dsimp only [List.getElem_toArray, List.getElem_cons_zero, List.getElem_cons_succ]
                    simp only [Act.put, List.setIfInBounds_toArray, List.set_cons_zero, List.set_cons_succ]
                    refine wpAnyH_ready (rs := [11]) (by kernel_rfl) (by simp) ?_
                    refine AllReadyH.cons rfl (fun K hK => ?_) AllReadyH.nil
                    rw [if_pos (by rfl)]
                    dsimp only [List.getElem_toArray, List.getElem_cons_zero, List.getElem_cons_succ]
                    go_simp
                    refine (HPJ.out _).mono ?_
                    rintro e wq ⟨rfl, hwq⟩
                    subst hwq
                    refine hK.out _ _ hS (fun _ => ?_)
                    clear hK K
                    try simp only [Act.put, List.setIfInBounds_toArray, List.set_cons_zero, List.set_cons_succ]
                    refine wpAnyH_take (i := 12) (v := (.int .i64 ((pj : Int) - 1))) rfl (by kernel_rfl) (by kernel_rfl) (by kernel_rfl) (fun _ _ _ h => h) (Or.inl ⟨by rfl, ?_⟩) hS ?_
                    · intro W hSw
                      obtain ⟨s0, s1, s2⟩ := hSw
                      go_simp
                      all_goals (try (rw [IntKind.wrap_i64]; omega))
                    dsimp only [List.getElem_toArray, List.getElem_cons_zero, List.getElem_cons_succ]
                    simp only [Act.put, List.setIfInBounds_toArray, List.set_cons_zero, List.set_cons_succ]
                    refine wpAnyH_ready (rs := [17]) (by kernel_rfl) (by simp) ?_
                    refine AllReadyH.cons rfl (fun K hK => ?_) AllReadyH.nil
                    rw [if_pos (by rfl)]
                    dsimp only [List.getElem_toArray, List.getElem_cons_zero, List.getElem_cons_succ]
                    go_simp
                    refine (HRC.out _ _ HLd.out).mono ?_
                    rintro e w5 ⟨rfl, hS5, H5⟩
                    refine hK.out _ _ hS5 (fun _ => ?_)
                    clear hK K
                    try simp only [Act.put, List.setIfInBounds_toArray, List.set_cons_zero, List.set_cons_succ]
                    refine wpAnyH_done (by kernel_rfl) ?_ _
                    clear hS HRC
                    go_wp2
                    go_roundw
                    case rel => exact ⟨j5 + 1, by omega, by simp, by have h := H5.out; rw [show 50 + 201 * j5 + 201 = 50 + 201 * (j5 + 1) by omega] at h; exact h⟩
                    case measure => simp [intOf]; omega
                  · have hji5 : ¬ (j5 : Int) < (rs.length : Int) := by omega
                    have hL9 : 50 + 201 * j5 ≤ 4294960000 := by omega
                    generalize 50 + 201 * j5 = LL at *
                    have CO : Hid (∀ (w : World) T, OneR W n gb pb pc rl T LL w → w.cell? ⟨gb, 0, none⟩ = some (.slice (some ⟨pb, 0, none⟩) n pc) ∧ w.cell? ⟨pb, nm, none⟩ = some (.pointer (some ⟨rl, 0, none⟩))) := fun w T h => by
                      obtain ⟨c0, c1⟩ := h.cells
                      rw [hnm] at c1
                      exact ⟨c0, c1⟩
                    have HTK : Hid (Calls Tryz.prog 25 #[.pointer (some ⟨rl, 0, none⟩)] wr fun e w' => e = .returned (.tuple #[]) ∧ (w'.cell? ⟨gb, 0, none⟩ = some (.slice (some ⟨pb, 0, none⟩) n pc) ∧ w'.cell? ⟨pb, nm, none⟩ = some (.pointer (some ⟨rl, 0, none⟩))) ∧ Hid (OneR W n gb pb pc rl 1001 LL w')) := by
                      refine (one_tick (by omega) HL.out).mono ?_
                      rintro e w' ⟨he, h'⟩
                      exact ⟨he, CO.out w' _ h', h'⟩
                    have HFT : Hid (∀ w, OneR W n gb pb pc rl 1001 LL w → Calls Tryz.prog 29 #[.pointer (some ⟨rl, 0, none⟩)] w fun e w' => ∃ v, e = .returned v ∧ (w'.cell? ⟨gb, 0, none⟩ = some (.slice (some ⟨pb, 0, none⟩) n pc) ∧ w'.cell? ⟨pb, nm, none⟩ = some (.pointer (some ⟨rl, 0, none⟩))) ∧ Hid (OneR W n gb pb pc rl 1001 LL w')) := fun w h => by
                      refine (one_frames HG.out (by omega) h hL9).mono ?_
                      rintro e w' ⟨v, he, h'⟩
                      exact ⟨v, he, CO.out w' _ h', h'⟩
                    have HVT : Hid (∀ w, OneR W n gb pb pc rl 1001 LL w → Calls Tryz.prog 23 #[.pointer (some ⟨rl, 0, none⟩)] w fun e w' => ∃ v, e = .returned v ∧ Hid (Below W.heap.size W w')) := fun w h => by
                      refine (one_view HG.out h hL9).mono ?_
                      rintro e w' ⟨v, he, h'⟩
                      exact ⟨v, he, h'.old⟩
                    have HNW : Hid (∀ w, Below W.heap.size W w → Calls Tryz.prog 31 #[.int .i64 0, .int .i64 2] w fun e w' => ∃ rn, e = .returned (.tuple #[.pointer (some ⟨rn, 0, none⟩), .int .i64 0]) ∧ Hid (W.heap.size ≤ rn ∧ Below W.heap.size W w' ∧ RepQ w' rn 2 0 0 [] 0 [] (fun _ => false) (.slice none 0 0) (.slice none 0 0))) := fun w h => by
                      refine (newR 2 (by omega) 0 (by omega) w).mono ?_
                      rintro e w' ⟨he, -, hb, hr⟩
                      exact ⟨_, he, h.size, old_upd h (Upd.of_below (S := []) hb) (by simp), hr⟩
                    have HDM : Hid (∀ w rn, (W.heap.size ≤ rn ∧ Below W.heap.size W w ∧ RepQ w rn 2 0 0 [] 0 [] (fun _ => false) (.slice none 0 0) (.slice none 0 0)) → Calls Tryz.prog 20 #[.pointer (some ⟨rn, 0, none⟩), .string ⟨#[97, 100, 100, 32, 109, 105, 108, 107, 32, 50]⟩] w fun e w' => e = .returned (.int .i64 0) ∧ Hid (FinR W rn w')) := fun w rn h => fin_do HG.out h.2.1 h.2.2 h.1
                    have HN1 : Hid (∀ w rn, FinR W rn w → Calls Tryz.prog 30 #[.pointer (some ⟨rn, 0, none⟩), .int .i64 1, .slice none 0 0] w fun e w' => e = .returned (.tuple #[]) ∧ Hid (FinR W rn w')) := fun w rn h => fin_bad HG.out h none 0 [] (by simp) (by simp) (by omega) (okB_short (by decide)) (fun i x hx => by simp at hx) ⟨none, 0, rfl, fun i x hx => by simp at hx⟩ 1
                    have HN2 : Hid (∀ w rn, FinR W rn w → Calls Tryz.prog 30 #[.pointer (some ⟨rn, 0, none⟩), .int .i64 0, .slice (some ⟨w.heap.size, 0, none⟩) 3 3] (w.alloc (.cells #[.int .u8 1, .int .u8 2, .int .u8 3] 5)) fun e w' => e = .returned (.tuple #[]) ∧ Hid (FinR W rn w')) := fun w rn h => by
                      have hlt : rn < w.heap.size := by
                        obtain ⟨x, its, ow, ev, wv, hf⟩ := h
                        exact hf.rep.lt
                      have hb : Below w.heap.size w (w.alloc (.cells #[.int .u8 1, .int .u8 2, .int .u8 3] 5)) := (Below.refl _ w).alloc (Nat.le_refl _) _
                      refine fin_bad HG.out (h.below hb) (some ⟨w.heap.size, 0, none⟩) 3 [1, 2, 3] (by simp) (by simp) (by omega) (okB_short (by decide)) (fun i x _ b o hp => ?_) ⟨_, _, rfl, fun i x hx => ⟨w.heap.size, 0, rfl, ?_⟩⟩ 0
                      · simp only [Option.some.injEq, Addr.mk.injEq, and_true] at hp
                        omega
                      · rw [cell_of_heap (heap_alloc_new w _)]
                        have hi : i < 3 := by simpa using (List.getElem?_eq_some_iff.1 hx).1
                        rcases (show i = 0 ∨ i = 1 ∨ i = 2 by omega) with rfl | rfl | rfl <;> (simp at hx; subst hx; rfl)
                    have HM1 : Hid (∀ w rn, FinR W rn w → Calls Tryz.prog 28 #[.pointer (some ⟨rn, 0, none⟩)] w fun e w' => ∃ p c, e = .returned (.slice p 1 c) ∧ Hid (FinR W rn w')) := fun w rn h => fin_known HG.out h
                    have HM2 : Hid (∀ w rn, FinR W rn w → Calls Tryz.prog 23 #[.pointer (some ⟨rn, 0, none⟩)] w fun e w' => e = .returned (.string ⟨#[105, 116, 101, 109, 32, 109, 105, 108, 107, 32, 50, 10]⟩) ∧ Hid (Below W.heap.size W w')) := fun w rn h => by
                      refine (fin_view HG.out h).mono ?_
                      rintro e w' ⟨he, h'⟩
                      exact ⟨he, h'.old⟩
                    clear HL HP HRW CO
                    go_wp2_with (first
                      | (go_at_call 23; refine (HM2.out _ _ N4.out).mono ?_; rintro e w21 ⟨rfl, N5⟩)
                      | (go_at_call 28; refine (HM1.out _ _ N3.out).mono ?_; rintro e w20 ⟨pq, cq, rfl, N4⟩)
                      | (go_at_call 30; refine (HN2.out _ _ N2.out).mono ?_; rintro e w19 ⟨rfl, N3⟩)
                      | (go_at_call 30; refine (HN1.out _ _ N1.out).mono ?_; rintro e w18 ⟨rfl, N2⟩)
                      | (go_at_call 20; refine (HDM.out _ _ N0.out).mono ?_; rintro e w17 ⟨rfl, N1⟩)
                      | (go_at_call 31; refine (HNW.out _ M3.out).mono ?_; rintro e w16 ⟨rn, rfl, N0⟩)
                      | (go_at_call 23; refine (HVT.out _ M2.out).mono ?_; rintro e w15 ⟨zv, rfl, M3⟩)
                      | (go_at_call 29; refine (HFT.out _ M1.out).mono ?_; rintro e w14 ⟨zf, rfl, ⟨k0, k1⟩, M2⟩)
                      | (go_at_call 25; refine HTK.out.mono ?_; rintro e w13 ⟨rfl, ⟨i0, i1⟩, M1⟩))
                    go_ret
                    exact ⟨rfl, N5.out⟩
      · have hki : ¬ (k : Int) < (sc.length : Int) := by omega
        go_wp2_with (first
          | (go_at_call 29; refine (HFR.out _ H8.out).mono ?_; rintro e w9 ⟨pF, mF, cF, rfl, hmF, HF⟩)
          | (go_at_call 23; refine (HVW.out _ H7.out).mono ?_; rintro e w8 ⟨rfl, g0, g1, H8⟩)
          | (go_at_call 28; refine HKN.out.mono ?_; rintro e w7 ⟨pk, ck, rfl, f0, f1, H7⟩))
        clear HFR HVW HKN H7 H8 g0 g1 f0 f1 e0 E1 CE
        go_loopw [15] (fun i wr => ∃ (j : Nat), j ≤ mF ∧ i = .int .i64 (j : Int) ∧ Hid (SilF W n gb pb pc rbs (2 * k) pF mF cF wr)) (fun i _ => mF - (intOf i).toNat)
        case atStart => exact ⟨0, by omega, rfl, HF⟩
        case round =>
          clear HF
          obtain ⟨j, hj, rfl, HJ⟩ := hrel
          obtain ⟨u0, u1⟩ := HJ.out.cells
          have U1 := u1 0 (by omega)
          rw [hr0] at U1
          clear u1
          by_cases hjl : j < mF
          · have hji : (j : Int) < (mF : Int) := by omega
            obtain ⟨b, ot, q, l, cq, rfl, x0, x1, hcm⟩ := sil_out HG.out HJ.out hjl
            by_cases h0 : ot = 0
            · subst h0
              have HCM : Hid (∀ W', Below wr.heap.size wr W' → Calls Tryz.prog 30 #[.pointer (some ⟨r0, 0, none⟩), .int .i64 1, .slice q l cq] W' fun e w' => e = .returned (.tuple #[]) ∧ (fun w' : World => w'.cell? ⟨gb, 0, none⟩ = some (.slice (some ⟨pb, 0, none⟩) n pc) ∧ w'.cell? ⟨pb, 0, none⟩ = some (.pointer (some ⟨r0, 0, none⟩)) ∧ w'.cell? ⟨b, j * 2 + 1, none⟩ = some (.slice q l cq)) w' ∧ Hid (SilF W n gb pb pc rbs (2 * k) (some ⟨b, 0, none⟩) mF cF w')) := fun W' hW => by
                have := hcm rfl W' hW
                rw [hr0] at this
                refine this.mono ?_
                rintro e w' ⟨he, h1, h2⟩
                obtain ⟨v0, v1⟩ := h2.cells
                exact ⟨he, ⟨v0, by rw [← hr0]; exact v1 0 (by omega), h1⟩, h2⟩
              clear hcm HJ
              go_upto_region 22 with fail
              have hS : (fun w' : World => w'.cell? ⟨gb, 0, none⟩ = some (.slice (some ⟨pb, 0, none⟩) n pc) ∧ w'.cell? ⟨pb, 0, none⟩ = some (.pointer (some ⟨r0, 0, none⟩)) ∧ w'.cell? ⟨b, j * 2 + 1, none⟩ = some (.slice q l cq)) wr.drew := ⟨u0, U1, x1⟩
              refine wp_region_held (S := (fun w' : World => w'.cell? ⟨gb, 0, none⟩ = some (.slice (some ⟨pb, 0, none⟩) n pc) ∧ w'.cell? ⟨pb, 0, none⟩ = some (.pointer (some ⟨r0, 0, none⟩)) ∧ w'.cell? ⟨b, j * 2 + 1, none⟩ = some (.slice q l cq))) hmx ?_
              refine wpAnyH_take (i := 0) (v := (.pointer (some ⟨gb, 0, none⟩))) rfl (by kernel_rfl) (by kernel_rfl) (by kernel_rfl) (fun _ _ _ h => h) (Or.inl ⟨by rfl, ?_⟩) hS ?_
              · intro W hSw
                obtain ⟨s0, s1, s2⟩ := hSw
                go_simp
              dsimp only [List.getElem_toArray, List.getElem_cons_zero, List.getElem_cons_succ]
              simp only [Act.put, List.setIfInBounds_toArray, List.set_cons_zero, List.set_cons_succ]
              refine wpAnyH_take (i := 1) (v := (.pointer (some ⟨gb, 0, none⟩))) rfl (by kernel_rfl) (by kernel_rfl) (by kernel_rfl) (fun _ _ _ h => h) (Or.inl ⟨by rfl, ?_⟩) hS ?_
              · intro W hSw
                obtain ⟨s0, s1, s2⟩ := hSw
                go_simp
              dsimp only [List.getElem_toArray, List.getElem_cons_zero, List.getElem_cons_succ]
              simp only [Act.put, List.setIfInBounds_toArray, List.set_cons_zero, List.set_cons_succ]
              refine wpAnyH_take (i := 2) (v := (.pointer (some ⟨gb, 0, none⟩))) rfl (by kernel_rfl) (by kernel_rfl) (by kernel_rfl) (fun _ _ _ h => h) (Or.inl ⟨by rfl, ?_⟩) hS ?_
              · intro W hSw
                obtain ⟨s0, s1, s2⟩ := hSw
                go_simp
              dsimp only [List.getElem_toArray, List.getElem_cons_zero, List.getElem_cons_succ]
              simp only [Act.put, List.setIfInBounds_toArray, List.set_cons_zero, List.set_cons_succ]
              refine wpAnyH_take (i := 3) (v := (.slice (some ⟨pb, 0, none⟩) n pc)) rfl (by kernel_rfl) (by kernel_rfl) (by kernel_rfl) (fun _ _ _ h => h) (Or.inl ⟨by rfl, ?_⟩) hS ?_
              · intro W hSw
                obtain ⟨s0, s1, s2⟩ := hSw
                go_simp
              dsimp only [List.getElem_toArray, List.getElem_cons_zero, List.getElem_cons_succ]
              simp only [Act.put, List.setIfInBounds_toArray, List.set_cons_zero, List.set_cons_succ]
              refine wpAnyH_take (i := 4) (v := (.pointer (some ⟨pb, 0, none⟩))) rfl (by kernel_rfl) (by kernel_rfl) (by kernel_rfl) (fun _ _ _ h => h) (Or.inl ⟨by rfl, ?_⟩) hS ?_
              · intro W hSw
                obtain ⟨s0, s1, s2⟩ := hSw
                go_simp
                all_goals (try (intro hz; omega))
              dsimp only [List.getElem_toArray, List.getElem_cons_zero, List.getElem_cons_succ]
              simp only [Act.put, List.setIfInBounds_toArray, List.set_cons_zero, List.set_cons_succ]
              refine wpAnyH_take (i := 5) (v := (.pointer (some ⟨r0, 0, none⟩))) rfl (by kernel_rfl) (by kernel_rfl) (by kernel_rfl) (fun _ _ _ h => h) (Or.inl ⟨by rfl, ?_⟩) hS ?_
              · intro W hSw
                obtain ⟨s0, s1, s2⟩ := hSw
                go_simp
              dsimp only [List.getElem_toArray, List.getElem_cons_zero, List.getElem_cons_succ]
              simp only [Act.put, List.setIfInBounds_toArray, List.set_cons_zero, List.set_cons_succ]
              refine wpAnyH_take (i := 6) (v := (.slice (some ⟨b, 0, none⟩) mF cF)) rfl (by kernel_rfl) (by kernel_rfl) (by kernel_rfl) (fun _ _ _ h => h) (Or.inl ⟨by rfl, ?_⟩) hS ?_
              · intro W hSw
                obtain ⟨s0, s1, s2⟩ := hSw
                go_simp
              dsimp only [List.getElem_toArray, List.getElem_cons_zero, List.getElem_cons_succ]
              simp only [Act.put, List.setIfInBounds_toArray, List.set_cons_zero, List.set_cons_succ]
              refine wpAnyH_take (i := 7) (v := (.int .i64 (j : Int))) rfl (by kernel_rfl) (by kernel_rfl) (by kernel_rfl) (fun _ _ _ h => h) (Or.inl ⟨by rfl, ?_⟩) hS ?_
              · intro W hSw
                obtain ⟨s0, s1, s2⟩ := hSw
                go_simp
              dsimp only [List.getElem_toArray, List.getElem_cons_zero, List.getElem_cons_succ]
              simp only [Act.put, List.setIfInBounds_toArray, List.set_cons_zero, List.set_cons_succ]
              refine wpAnyH_take (i := 8) (v := (.pointer (some ⟨b, j * 2, none⟩))) rfl (by kernel_rfl) (by kernel_rfl) (by kernel_rfl) (fun _ _ _ h => h) (Or.inl ⟨by rfl, ?_⟩) hS ?_
              · intro W hSw
                obtain ⟨s0, s1, s2⟩ := hSw
                go_simp
                all_goals (try (intro hz; omega))
              dsimp only [List.getElem_toArray, List.getElem_cons_zero, List.getElem_cons_succ]
              simp only [Act.put, List.setIfInBounds_toArray, List.set_cons_zero, List.set_cons_succ]
              refine wpAnyH_take (i := 9) (v := (.pointer (some ⟨b, j * 2 + 1, none⟩))) rfl (by kernel_rfl) (by kernel_rfl) (by kernel_rfl) (fun _ _ _ h => h) (Or.inl ⟨by rfl, ?_⟩) hS ?_
              · intro W hSw
                obtain ⟨s0, s1, s2⟩ := hSw
                go_simp
              dsimp only [List.getElem_toArray, List.getElem_cons_zero, List.getElem_cons_succ]
              simp only [Act.put, List.setIfInBounds_toArray, List.set_cons_zero, List.set_cons_succ]
              refine wpAnyH_take (i := 10) (v := (.slice q l cq)) rfl (by kernel_rfl) (by kernel_rfl) (by kernel_rfl) (fun _ _ _ h => h) (Or.inl ⟨by rfl, ?_⟩) hS ?_
              · intro W hSw
                obtain ⟨s0, s1, s2⟩ := hSw
                go_simp
              dsimp only [List.getElem_toArray, List.getElem_cons_zero, List.getElem_cons_succ]
              simp only [Act.put, List.setIfInBounds_toArray, List.set_cons_zero, List.set_cons_succ]
              refine wpAnyH_ready (rs := [11]) (by kernel_rfl) (by simp) ?_
              refine AllReadyH.cons rfl (fun K hK => ?_) AllReadyH.nil
              rw [if_pos (by rfl)]
              dsimp only [List.getElem_toArray, List.getElem_cons_zero, List.getElem_cons_succ]
              go_simp
              refine (HCM.out _ (Below.refl _ _).drew).mono ?_
              rintro e w5 ⟨rfl, hS5, H5⟩
              refine hK.out _ _ hS5 (fun _ => ?_)
              clear hK K
              try simp only [Act.put, List.setIfInBounds_toArray, List.set_cons_zero, List.set_cons_succ]
              refine wpAnyH_done (by kernel_rfl) ?_ _
              clear hS HCM
              go_wp2
              go_roundw
              case rel => exact ⟨j + 1, by omega, by simp, H5⟩
              case measure => simp [intOf]; omega
            · have hne : ¬ ((ot : Int) = 0) := by omega
              clear hcm
              go_wp2
              go_roundw
              case rel => exact ⟨j + 1, by omega, by simp, HJ⟩
              case measure => simp [intOf]; omega
          · have hji : ¬ (j : Int) < (mF : Int) := by omega
            go_upto_region 24 with (go_at_call 28; refine (HRK.out _ _ _ _ HJ.out).mono ?_; rintro e wk ⟨pA, mA, cA, rfl, hmA, HK⟩)
            clear HJ HRK u0 U1
            go_wp2
            go_loopw [17] (fun i wr => ∃ (j : Nat), j ≤ mA ∧ i = .int .i64 (j : Int) ∧ wr = wk) (fun i _ => mA - (intOf i).toNat)
            case atStart => exact ⟨0, by omega, rfl, rfl⟩
            case round =>
              obtain ⟨j2, hj2, rfl, hwr⟩ := hrel
              subst hwr
              by_cases hjl2 : j2 < mA
              · have hji2 : (j2 : Int) < (mA : Int) := by omega
                obtain ⟨b, rfl, x0, x1⟩ := HK.out.1 j2 hjl2
                go_wp2
                go_roundw
                case rel => exact ⟨j2 + 1, by omega, by simp, by first | trivial | rfl⟩
                case measure => simp [intOf]; omega
              · have hji2 : ¬ (j2 : Int) < (mA : Int) := by omega
                have HS4 : Hid (OneR W n gb pb pc rl 1000 (50 + 201 * 0) wr) := HK.out.2
                clear HK
                go_wp2
                go_loopw [18] (fun i w5 => ∃ (j : Nat), j ≤ rs.length ∧ i = .int .i64 (j : Int) ∧ Hid (OneR W n gb pb pc rl 1000 (50 + 201 * j) w5)) (fun i _ => rs.length - (intOf i).toNat)
                case atStart => exact ⟨0, by omega, rfl, HS4⟩
                case round =>
                  clear HS4
                  obtain ⟨j5, hj5, rfl, HL⟩ := hrel
                  obtain ⟨v0, v1⟩ := HL.out.cells
                  rw [hnm] at v1
                  by_cases hjl5 : j5 < rs.length
                  · have hji5 : (j5 : Int) < (rs.length : Int) := by omega
                    obtain ⟨br, orf, hpr, y0, y1, y2, y3, y4⟩ := HRW.out j5 rs[j5] (List.getElem?_eq_getElem hjl5)
                    have HY : Hid (∀ w', Below W.heap.size W w' → w'.cell? ⟨br, orf + j5, none⟩ = some (.slice rs[j5].1 rs[j5].2.2.length rs[j5].2.1)) := fun w' hb => (World.cell?_of_block (a := ⟨br, orf + j5, none⟩) (hb.block br (World.block_lt_of_cell? W _ y0))).trans y0
                    have hmF' : 0 < rs.length := by omega
                    subst hpr
                    obtain ⟨np, hnp⟩ : ∃ np, n + 1 = np := ⟨_, rfl⟩
                    have hnpi : (n : Int) + 1 = (np : Int) := by omega
                    have HPJ : Hid (∀ w, Calls Tryz.prog 18 #[.int .i64 (j5 : Int), .int .i64 (np : Int)] w fun e w' => e = .returned (.int .i64 (pickN (j5 : Int) (np : Int) : Int)) ∧ w' = w) := fun w => HP.out (j5 : Int) (np : Int) w (by omega) (by omega)
                    have hpj : pickN (j5 : Int) (np : Int) < np := by have : (pickN (j5 : Int) (np : Int) : Int) < np := pickN_lt (by omega); omega
                    have HRC : Hid (∀ fr w, OneR W n gb pb pc rl 1000 (50 + 201 * j5) w → Calls Tryz.prog 30 #[.pointer (some ⟨rl, 0, none⟩), .int .i64 fr, .slice rs[j5].1 rs[j5].2.2.length rs[j5].2.1] w fun e w' => e = .returned (.tuple #[]) ∧ (w'.cell? ⟨gb, 0, none⟩ = some (.slice (some ⟨pb, 0, none⟩) n pc) ∧ w'.cell? ⟨pb, nm, none⟩ = some (.pointer (some ⟨rl, 0, none⟩)) ∧ w'.cell? ⟨br, orf + j5, none⟩ = some (.slice rs[j5].1 rs[j5].2.2.length rs[j5].2.1)) ∧ Hid (OneR W n gb pb pc rl 1000 (50 + 201 * j5 + 201) w')) := fun fr w h => by
                      refine (one_recv HG.out h (by omega) _ _ _ y2 (by omega) y3 y1 fr).mono ?_
                      rintro e w' ⟨he, h'⟩
                      obtain ⟨c0, c1⟩ := h'.cells
                      rw [hnm] at c1
                      exact ⟨he, ⟨c0, c1, HY.out w' h'.old⟩, h'⟩
                    have HLd : Hid (OneR W n gb pb pc rl 1000 (50 + 201 * j5) wr.drew) := HL.out.below (Below.refl _ _).drew (Nat.le_refl _)
                    have z0 := HY.out _ HL.out.old
                    clear y0 y1 y2 y3 y4 HL HY HP
                    generalize rs[j5].1 = pr at *
                    generalize rs[j5].2.1 = cr at *
                    generalize rs[j5].2.2.length = lr at *
                    generalize pickN (j5 : Int) (np : Int) = pj at *
                    go_upto_region 32 with fail
                    have hS : (fun w' : World => w'.cell? ⟨gb, 0, none⟩ = some (.slice (some ⟨pb, 0, none⟩) n pc) ∧ w'.cell? ⟨pb, nm, none⟩ = some (.pointer (some ⟨rl, 0, none⟩)) ∧ w'.cell? ⟨br, orf + j5, none⟩ = some (.slice pr lr cr)) wr.drew := ⟨v0, v1, z0⟩
                    refine wp_region_held (S := (fun w' : World => w'.cell? ⟨gb, 0, none⟩ = some (.slice (some ⟨pb, 0, none⟩) n pc) ∧ w'.cell? ⟨pb, nm, none⟩ = some (.pointer (some ⟨rl, 0, none⟩)) ∧ w'.cell? ⟨br, orf + j5, none⟩ = some (.slice pr lr cr))) hmx ?_
                    refine wpAnyH_take (i := 0) (v := (.pointer (some ⟨gb, 0, none⟩))) rfl (by kernel_rfl) (by kernel_rfl) (by kernel_rfl) (fun _ _ _ h => h) (Or.inl ⟨by rfl, ?_⟩) hS ?_
                    · intro W hSw
                      obtain ⟨s0, s1, s2⟩ := hSw
                      go_simp
                    dsimp only [List.getElem_toArray, List.getElem_cons_zero, List.getElem_cons_succ]
                    simp only [Act.put, List.setIfInBounds_toArray, List.set_cons_zero, List.set_cons_succ]
                    refine wpAnyH_take (i := 1) (v := (.pointer (some ⟨gb, 0, none⟩))) rfl (by kernel_rfl) (by kernel_rfl) (by kernel_rfl) (fun _ _ _ h => h) (Or.inl ⟨by rfl, ?_⟩) hS ?_
                    · intro W hSw
                      obtain ⟨s0, s1, s2⟩ := hSw
                      go_simp
                    dsimp only [List.getElem_toArray, List.getElem_cons_zero, List.getElem_cons_succ]
                    simp only [Act.put, List.setIfInBounds_toArray, List.set_cons_zero, List.set_cons_succ]
                    refine wpAnyH_take (i := 2) (v := (.pointer (some ⟨gb, 0, none⟩))) rfl (by kernel_rfl) (by kernel_rfl) (by kernel_rfl) (fun _ _ _ h => h) (Or.inl ⟨by rfl, ?_⟩) hS ?_
                    · intro W hSw
                      obtain ⟨s0, s1, s2⟩ := hSw
                      go_simp
                    dsimp only [List.getElem_toArray, List.getElem_cons_zero, List.getElem_cons_succ]
                    simp only [Act.put, List.setIfInBounds_toArray, List.set_cons_zero, List.set_cons_succ]
                    refine wpAnyH_take (i := 3) (v := (.slice (some ⟨pb, 0, none⟩) n pc)) rfl (by kernel_rfl) (by kernel_rfl) (by kernel_rfl) (fun _ _ _ h => h) (Or.inl ⟨by rfl, ?_⟩) hS ?_
                    · intro W hSw
                      obtain ⟨s0, s1, s2⟩ := hSw
                      go_simp
                    dsimp only [List.getElem_toArray, List.getElem_cons_zero, List.getElem_cons_succ]
                    simp only [Act.put, List.setIfInBounds_toArray, List.set_cons_zero, List.set_cons_succ]
                    refine wpAnyH_take (i := 4) (v := (.int .i64 (n : Int))) rfl (by kernel_rfl) (by kernel_rfl) (by kernel_rfl) (fun _ _ _ h => h) (Or.inl ⟨by rfl, ?_⟩) hS ?_
                    · intro W hSw
                      obtain ⟨s0, s1, s2⟩ := hSw
                      go_simp
                    dsimp only [List.getElem_toArray, List.getElem_cons_zero, List.getElem_cons_succ]
                    simp only [Act.put, List.setIfInBounds_toArray, List.set_cons_zero, List.set_cons_succ]
                    refine wpAnyH_take (i := 5) (v := (.int .i64 (nm : Int))) rfl (by kernel_rfl) (by kernel_rfl) (by kernel_rfl) (fun _ _ _ h => h) (Or.inl ⟨by rfl, ?_⟩) hS ?_
                    · intro W hSw
                      obtain ⟨s0, s1, s2⟩ := hSw
                      go_simp
                      all_goals (try (rw [IntKind.wrap_i64]; omega))
                    dsimp only [List.getElem_toArray, List.getElem_cons_zero, List.getElem_cons_succ]
                    simp only [Act.put, List.setIfInBounds_toArray, List.set_cons_zero, List.set_cons_succ]
                    refine wpAnyH_take (i := 6) (v := (.pointer (some ⟨pb, nm, none⟩))) rfl (by kernel_rfl) (by kernel_rfl) (by kernel_rfl) (fun _ _ _ h => h) (Or.inl ⟨by rfl, ?_⟩) hS ?_
                    · intro W hSw
                      obtain ⟨s0, s1, s2⟩ := hSw
                      go_simp
                      all_goals (try (intro hz; omega))
                    dsimp only [List.getElem_toArray, List.getElem_cons_zero, List.getElem_cons_succ]
                    simp only [Act.put, List.setIfInBounds_toArray, List.set_cons_zero, List.set_cons_succ]
                    refine wpAnyH_take (i := 7) (v := (.pointer (some ⟨rl, 0, none⟩))) rfl (by kernel_rfl) (by kernel_rfl) (by kernel_rfl) (fun _ _ _ h => h) (Or.inl ⟨by rfl, ?_⟩) hS ?_
                    · intro W hSw
                      obtain ⟨s0, s1, s2⟩ := hSw
                      go_simp
                    dsimp only [List.getElem_toArray, List.getElem_cons_zero, List.getElem_cons_succ]
                    simp only [Act.put, List.setIfInBounds_toArray, List.set_cons_zero, List.set_cons_succ]
                    refine wpAnyH_take (i := 8) (v := (.int .i64 (j5 : Int))) rfl (by kernel_rfl) (by kernel_rfl) (by kernel_rfl) (fun _ _ _ h => h) (Or.inl ⟨by rfl, ?_⟩) hS ?_
                    · intro W hSw
                      obtain ⟨s0, s1, s2⟩ := hSw
                      go_simp
                    dsimp only [List.getElem_toArray, List.getElem_cons_zero, List.getElem_cons_succ]
                    simp only [Act.put, List.setIfInBounds_toArray, List.set_cons_zero, List.set_cons_succ]
                    refine wpAnyH_take (i := 9) (v := (.int .i64 (n : Int))) rfl (by kernel_rfl) (by kernel_rfl) (by kernel_rfl) (fun _ _ _ h => h) (Or.inl ⟨by rfl, ?_⟩) hS ?_
                    · intro W hSw
                      obtain ⟨s0, s1, s2⟩ := hSw
                      go_simp
                    dsimp only [List.getElem_toArray, List.getElem_cons_zero, List.getElem_cons_succ]
                    simp only [Act.put, List.setIfInBounds_toArray, List.set_cons_zero, List.set_cons_succ]
                    refine wpAnyH_take (i := 10) (v := (.int .i64 (np : Int))) rfl (by kernel_rfl) (by kernel_rfl) (by kernel_rfl) (fun _ _ _ h => h) (Or.inl ⟨by rfl, ?_⟩) hS ?_
                    · intro W hSw
                      obtain ⟨s0, s1, s2⟩ := hSw
                      go_simp
                      all_goals (try (rw [IntKind.wrap_i64]; omega))
                    dsimp only [List.getElem_toArray, List.getElem_cons_zero, List.getElem_cons_succ]
                    simp only [Act.put, List.setIfInBounds_toArray, List.set_cons_zero, List.set_cons_succ]
                    refine wpAnyH_take (i := 13) (v := (.slice (some ⟨br, orf, none⟩) rs.length cap9)) rfl (by kernel_rfl) (by kernel_rfl) (by kernel_rfl) (fun _ _ _ h => h) (Or.inl ⟨by rfl, ?_⟩) hS ?_
                    · intro W hSw
                      obtain ⟨s0, s1, s2⟩ := hSw
                      go_simp
                    dsimp only [List.getElem_toArray, List.getElem_cons_zero, List.getElem_cons_succ]
                    simp only [Act.put, List.setIfInBounds_toArray, List.set_cons_zero, List.set_cons_succ]
                    refine wpAnyH_take (i := 14) (v := (.int .i64 (j5 : Int))) rfl (by kernel_rfl) (by kernel_rfl) (by kernel_rfl) (fun _ _ _ h => h) (Or.inl ⟨by rfl, ?_⟩) hS ?_
                    · intro W hSw
                      obtain ⟨s0, s1, s2⟩ := hSw
                      go_simp
                    dsimp only [List.getElem_toArray, List.getElem_cons_zero, List.getElem_cons_succ]
                    simp only [Act.put, List.setIfInBounds_toArray, List.set_cons_zero, List.set_cons_succ]
                    refine wpAnyH_take (i := 15) (v := (.pointer (some ⟨br, orf + j5, none⟩))) rfl (by kernel_rfl) (by kernel_rfl) (by kernel_rfl) (fun _ _ _ h => h) (Or.inl ⟨by rfl, ?_⟩) hS ?_
                    · intro W hSw
                      obtain ⟨s0, s1, s2⟩ := hSw
                      go_simp
                      all_goals (try (intro hz; omega))
                    dsimp only [List.getElem_toArray, List.getElem_cons_zero, List.getElem_cons_succ]
                    simp only [Act.put, List.setIfInBounds_toArray, List.set_cons_zero, List.set_cons_succ]
                    refine wpAnyH_take (i := 16) (v := (.slice pr lr cr)) rfl (by kernel_rfl) (by kernel_rfl) (by kernel_rfl) (fun _ _ _ h => h) (Or.inl ⟨by rfl, ?_⟩) hS ?_
                    · intro W hSw
                      obtain ⟨s0, s1, s2⟩ := hSw
                      go_simp
                    dsimp only [List.getElem_toArray, List.getElem_cons_zero, List.getElem_cons_succ]
                    simp only [Act.put, List.setIfInBounds_toArray, List.set_cons_zero, List.set_cons_succ]
                    refine wpAnyH_ready (rs := [11]) (by kernel_rfl) (by simp) ?_
                    refine AllReadyH.cons rfl (fun K hK => ?_) AllReadyH.nil
                    rw [if_pos (by rfl)]
                    dsimp only [List.getElem_toArray, List.getElem_cons_zero, List.getElem_cons_succ]
                    go_simp
                    refine (HPJ.out _).mono ?_
                    rintro e wq ⟨rfl, hwq⟩
                    subst hwq
                    refine hK.out _ _ hS (fun _ => ?_)
                    clear hK K
                    try simp only [Act.put, List.setIfInBounds_toArray, List.set_cons_zero, List.set_cons_succ]
                    refine wpAnyH_take (i := 12) (v := (.int .i64 ((pj : Int) - 1))) rfl (by kernel_rfl) (by kernel_rfl) (by kernel_rfl) (fun _ _ _ h => h) (Or.inl ⟨by rfl, ?_⟩) hS ?_
                    · intro W hSw
                      obtain ⟨s0, s1, s2⟩ := hSw
                      go_simp
                      all_goals (try (rw [IntKind.wrap_i64]; omega))
                    dsimp only [List.getElem_toArray, List.getElem_cons_zero, List.getElem_cons_succ]
                    simp only [Act.put, List.setIfInBounds_toArray, List.set_cons_zero, List.set_cons_succ]
                    refine wpAnyH_ready (rs := [17]) (by kernel_rfl) (by simp) ?_
                    refine AllReadyH.cons rfl (fun K hK => ?_) AllReadyH.nil
                    rw [if_pos (by rfl)]
                    dsimp only [List.getElem_toArray, List.getElem_cons_zero, List.getElem_cons_succ]
                    go_simp
                    refine (HRC.out _ _ HLd.out).mono ?_
                    rintro e w5 ⟨rfl, hS5, H5⟩
                    refine hK.out _ _ hS5 (fun _ => ?_)
                    clear hK K
                    try simp only [Act.put, List.setIfInBounds_toArray, List.set_cons_zero, List.set_cons_succ]
                    refine wpAnyH_done (by kernel_rfl) ?_ _
                    clear hS HRC
                    go_wp2
                    go_roundw
                    case rel => exact ⟨j5 + 1, by omega, by simp, by have h := H5.out; rw [show 50 + 201 * j5 + 201 = 50 + 201 * (j5 + 1) by omega] at h; exact h⟩
                    case measure => simp [intOf]; omega
                  · have hji5 : ¬ (j5 : Int) < (rs.length : Int) := by omega
                    have hL9 : 50 + 201 * j5 ≤ 4294960000 := by omega
                    generalize 50 + 201 * j5 = LL at *
                    have CO : Hid (∀ (w : World) T, OneR W n gb pb pc rl T LL w → w.cell? ⟨gb, 0, none⟩ = some (.slice (some ⟨pb, 0, none⟩) n pc) ∧ w.cell? ⟨pb, nm, none⟩ = some (.pointer (some ⟨rl, 0, none⟩))) := fun w T h => by
                      obtain ⟨c0, c1⟩ := h.cells
                      rw [hnm] at c1
                      exact ⟨c0, c1⟩
                    have HTK : Hid (Calls Tryz.prog 25 #[.pointer (some ⟨rl, 0, none⟩)] wr fun e w' => e = .returned (.tuple #[]) ∧ (w'.cell? ⟨gb, 0, none⟩ = some (.slice (some ⟨pb, 0, none⟩) n pc) ∧ w'.cell? ⟨pb, nm, none⟩ = some (.pointer (some ⟨rl, 0, none⟩))) ∧ Hid (OneR W n gb pb pc rl 1001 LL w')) := by
                      refine (one_tick (by omega) HL.out).mono ?_
                      rintro e w' ⟨he, h'⟩
                      exact ⟨he, CO.out w' _ h', h'⟩
                    have HFT : Hid (∀ w, OneR W n gb pb pc rl 1001 LL w → Calls Tryz.prog 29 #[.pointer (some ⟨rl, 0, none⟩)] w fun e w' => ∃ v, e = .returned v ∧ (w'.cell? ⟨gb, 0, none⟩ = some (.slice (some ⟨pb, 0, none⟩) n pc) ∧ w'.cell? ⟨pb, nm, none⟩ = some (.pointer (some ⟨rl, 0, none⟩))) ∧ Hid (OneR W n gb pb pc rl 1001 LL w')) := fun w h => by
                      refine (one_frames HG.out (by omega) h hL9).mono ?_
                      rintro e w' ⟨v, he, h'⟩
                      exact ⟨v, he, CO.out w' _ h', h'⟩
                    have HVT : Hid (∀ w, OneR W n gb pb pc rl 1001 LL w → Calls Tryz.prog 23 #[.pointer (some ⟨rl, 0, none⟩)] w fun e w' => ∃ v, e = .returned v ∧ Hid (Below W.heap.size W w')) := fun w h => by
                      refine (one_view HG.out h hL9).mono ?_
                      rintro e w' ⟨v, he, h'⟩
                      exact ⟨v, he, h'.old⟩
                    have HNW : Hid (∀ w, Below W.heap.size W w → Calls Tryz.prog 31 #[.int .i64 0, .int .i64 2] w fun e w' => ∃ rn, e = .returned (.tuple #[.pointer (some ⟨rn, 0, none⟩), .int .i64 0]) ∧ Hid (W.heap.size ≤ rn ∧ Below W.heap.size W w' ∧ RepQ w' rn 2 0 0 [] 0 [] (fun _ => false) (.slice none 0 0) (.slice none 0 0))) := fun w h => by
                      refine (newR 2 (by omega) 0 (by omega) w).mono ?_
                      rintro e w' ⟨he, -, hb, hr⟩
                      exact ⟨_, he, h.size, old_upd h (Upd.of_below (S := []) hb) (by simp), hr⟩
                    have HDM : Hid (∀ w rn, (W.heap.size ≤ rn ∧ Below W.heap.size W w ∧ RepQ w rn 2 0 0 [] 0 [] (fun _ => false) (.slice none 0 0) (.slice none 0 0)) → Calls Tryz.prog 20 #[.pointer (some ⟨rn, 0, none⟩), .string ⟨#[97, 100, 100, 32, 109, 105, 108, 107, 32, 50]⟩] w fun e w' => e = .returned (.int .i64 0) ∧ Hid (FinR W rn w')) := fun w rn h => fin_do HG.out h.2.1 h.2.2 h.1
                    have HN1 : Hid (∀ w rn, FinR W rn w → Calls Tryz.prog 30 #[.pointer (some ⟨rn, 0, none⟩), .int .i64 1, .slice none 0 0] w fun e w' => e = .returned (.tuple #[]) ∧ Hid (FinR W rn w')) := fun w rn h => fin_bad HG.out h none 0 [] (by simp) (by simp) (by omega) (okB_short (by decide)) (fun i x hx => by simp at hx) ⟨none, 0, rfl, fun i x hx => by simp at hx⟩ 1
                    have HN2 : Hid (∀ w rn, FinR W rn w → Calls Tryz.prog 30 #[.pointer (some ⟨rn, 0, none⟩), .int .i64 0, .slice (some ⟨w.heap.size, 0, none⟩) 3 3] (w.alloc (.cells #[.int .u8 1, .int .u8 2, .int .u8 3] 5)) fun e w' => e = .returned (.tuple #[]) ∧ Hid (FinR W rn w')) := fun w rn h => by
                      have hlt : rn < w.heap.size := by
                        obtain ⟨x, its, ow, ev, wv, hf⟩ := h
                        exact hf.rep.lt
                      have hb : Below w.heap.size w (w.alloc (.cells #[.int .u8 1, .int .u8 2, .int .u8 3] 5)) := (Below.refl _ w).alloc (Nat.le_refl _) _
                      refine fin_bad HG.out (h.below hb) (some ⟨w.heap.size, 0, none⟩) 3 [1, 2, 3] (by simp) (by simp) (by omega) (okB_short (by decide)) (fun i x _ b o hp => ?_) ⟨_, _, rfl, fun i x hx => ⟨w.heap.size, 0, rfl, ?_⟩⟩ 0
                      · simp only [Option.some.injEq, Addr.mk.injEq, and_true] at hp
                        omega
                      · rw [cell_of_heap (heap_alloc_new w _)]
                        have hi : i < 3 := by simpa using (List.getElem?_eq_some_iff.1 hx).1
                        rcases (show i = 0 ∨ i = 1 ∨ i = 2 by omega) with rfl | rfl | rfl <;> (simp at hx; subst hx; rfl)
                    have HM1 : Hid (∀ w rn, FinR W rn w → Calls Tryz.prog 28 #[.pointer (some ⟨rn, 0, none⟩)] w fun e w' => ∃ p c, e = .returned (.slice p 1 c) ∧ Hid (FinR W rn w')) := fun w rn h => fin_known HG.out h
                    have HM2 : Hid (∀ w rn, FinR W rn w → Calls Tryz.prog 23 #[.pointer (some ⟨rn, 0, none⟩)] w fun e w' => e = .returned (.string ⟨#[105, 116, 101, 109, 32, 109, 105, 108, 107, 32, 50, 10]⟩) ∧ Hid (Below W.heap.size W w')) := fun w rn h => by
                      refine (fin_view HG.out h).mono ?_
                      rintro e w' ⟨he, h'⟩
                      exact ⟨he, h'.old⟩
                    clear HL HP HRW CO
                    go_wp2_with (first
                      | (go_at_call 23; refine (HM2.out _ _ N4.out).mono ?_; rintro e w21 ⟨rfl, N5⟩)
                      | (go_at_call 28; refine (HM1.out _ _ N3.out).mono ?_; rintro e w20 ⟨pq, cq, rfl, N4⟩)
                      | (go_at_call 30; refine (HN2.out _ _ N2.out).mono ?_; rintro e w19 ⟨rfl, N3⟩)
                      | (go_at_call 30; refine (HN1.out _ _ N1.out).mono ?_; rintro e w18 ⟨rfl, N2⟩)
                      | (go_at_call 20; refine (HDM.out _ _ N0.out).mono ?_; rintro e w17 ⟨rfl, N1⟩)
                      | (go_at_call 31; refine (HNW.out _ M3.out).mono ?_; rintro e w16 ⟨rn, rfl, N0⟩)
                      | (go_at_call 23; refine (HVT.out _ M2.out).mono ?_; rintro e w15 ⟨zv, rfl, M3⟩)
                      | (go_at_call 29; refine (HFT.out _ M1.out).mono ?_; rintro e w14 ⟨zf, rfl, ⟨k0, k1⟩, M2⟩)
                      | (go_at_call 25; refine HTK.out.mono ?_; rintro e w13 ⟨rfl, ⟨i0, i1⟩, M1⟩))
                    go_ret
                    exact ⟨rfl, N5.out⟩

end Go.Proofs.YtckmppkdpnhodaaGreatDoor
