/-
  Order.
-/
import Derived.Test.YtckmppkdpnhodaaGreatDoorT44
namespace Go.Proofs.YtckmppkdpnhodaaGreatDoor
set_option linter.unusedVariables false
set_option linter.unusedSimpArgs false
open Go.RowKit Go.Proofs

attribute [local go_sem ↓] Go.wp_at_zero Go.wp_at_succ

set_option maxRecDepth 100000 in
set_option maxHeartbeats 8000000 in
theorem orderG (W : World) (hg : Glob W) (nr : Int) (hnr : -9223372036854775808 ≤ nr ∧ nr ≤ 9223372036854775807) (p : Option Addr) (cap : Nat) (sc : List Ac) (hl : sc.length ≤ maxLen) (hok : ∀ o ∈ sc, o.ok) (hA : ActsAt W p sc) :
    Calls Tryz.prog 9 #[.int .i64 nr, .slice p sc.length cap] W fun e w' => e = .returned (.bool true) ∧ Below W.heap.size W w' := by
  have HG : Hid (Glob W) := hg
  have HA : Hid (ActsAt W p sc) := hA
  have HOK : Hid (∀ o ∈ sc, o.ok) := hok
  have HP : Hid (∀ (c m : Int) (w : World), (-9223372036854775808 ≤ c ∧ c ≤ 9223372036854775807) → (0 < m ∧ m ≤ 100) → Calls Tryz.prog 18 #[.int .i64 c, .int .i64 m] w fun e w' => e = .returned (.int .i64 (pickN c m : Int)) ∧ w' = w) := fun c m w hc hm => pickK c m w hc hm
  have hq : pickN nr 4 < 4 := by have : (pickN nr 4 : Int) < 4 := pickN_lt (by omega); omega
  have HBG : Hid (Calls Tryz.prog 19 #[.int .i64 (2 + (pickN nr 4 : Int))] W fun e w' => ∃ gb pb pc rbs, e = .returned (.pointer (some ⟨gb, 0, none⟩)) ∧ Hid (GrpR W (2 + pickN nr 4) 50 1000 gb pb pc rbs (fun _ => Sr.empty) w')) := by
    have := begunR (2 + pickN nr 4) (by omega) W (LB := 50) (NB := 1000) (by omega) (by omega)
    have e : ((2 + pickN nr 4 : Nat) : Int) = 2 + (pickN nr 4 : Int) := by omega
    rwa [e] at this
  have HBD : Hid (∀ g1 p1 c1 r1 w, GrpR W (2 + pickN nr 4) 50 1000 g1 p1 c1 r1 (fun _ => Sr.empty) w → Calls Tryz.prog 19 #[.int .i64 (2 + (pickN nr 4 : Int))] w fun e w' => ∃ g2 p2 c2 r2, e = .returned (.pointer (some ⟨g2, 0, none⟩)) ∧ Hid (Duo W (2 + pickN nr 4) 50 1000 g1 p1 c1 g2 p2 c2 r1 r2 (fun _ => Sr.empty) (fun _ => Sr.empty) w')) := fun g1 p1 c1 r1 w h => by
    have := begunD h (by omega) (by omega)
    have e : ((2 + pickN nr 4 : Nat) : Int) = 2 + (pickN nr 4 : Int) := by omega
    rwa [e] at this
  clear hg hA hok
  unfold maxLen at hl
  go_enter Tryz.func9, Tryz.ntmps9
  have hmx : Tryz.prog.follows .mixedOrders = true := by kernel_rfl
  go_wp2_with (first
    | (go_at_call 18; refine (HP.out _ _ _ (by assumption) (by omega)).mono ?_; rintro e w' ⟨rfl, hw⟩; have hw' := hw.symm; clear hw; subst hw')
    | (go_at_call 19; refine (HBD.out _ _ _ _ _ HB1.out).mono ?_; rintro e w2 ⟨g2, p2, c2, r2, rfl, HB2⟩)
    | (go_at_call 19; refine HBG.out.mono ?_; rintro e w1 ⟨g1, p1, c1, r1, rfl, HB1⟩))
  clear HBG HBD HB1 hnr
  generalize pickN nr 4 = q at *
  obtain ⟨n, hnq⟩ : ∃ n, 2 + q = n := ⟨_, rfl⟩
  have hni : 2 + (q : Int) = (n : Int) := by omega
  rw [hnq] at HB2
  have hn5 : 2 ≤ n ∧ n ≤ 5 := by omega
  simp only [hni]
  have HST : Hid (OrdS W n g1 p1 c1 g2 p2 c2 r1 r2 0 0 0 w2) := by
    have ht : totalS n (fun _ => Sr.empty) = 0 := (Sit.empty n).tot
    exact ⟨_, _, HB2.out, fun _ _ => List.Perm.refl _, ht, ht, fun _ _ => ⟨Nat.le_refl _, Nat.le_refl _⟩, fun _ _ => ⟨rfl, rfl⟩⟩
  clear hnq hni hq HB2
  go_loopw [8, 9] (fun v i wr => ∃ (k done : Nat), k ≤ sc.length ∧ k ≤ 40 ∧ done ≤ k ∧ i = .int .i64 (k : Int) ∧ v = .int .i64 (done : Int) ∧ Hid (OrdS W n g1 p1 c1 g2 p2 c2 r1 r2 (62 * (k / 4)) (k % 4) done wr)) (fun _ i _ => 40 - (intOf i).toNat)
  case atStart => exact ⟨0, 0, by omega, by omega, by omega, rfl, rfl, HST⟩
  case round =>
    clear HST
    obtain ⟨k, done, hk, hk40, hdk, rfl, rfl, HI⟩ := hrel
    obtain ⟨e0, f0, e1, f1⟩ := HI.out.cells
    by_cases hlt : k < sc.length ∧ k < 40
    · obtain ⟨hlt, hlt2⟩ := hlt
      have hki : (k : Int) < (sc.length : Int) := by omega
      have hki2 : (k : Int) < 40 := by omega
      have hact := (HA.out.below HI.out.old) k sc[k] (List.getElem?_eq_getElem hlt)
      have HAK : Hid (∀ w', Below W.heap.size W w' → ∃ b off, p = some ⟨b, off, none⟩ ∧ w'.cell? ⟨b, off + k * 4, none⟩ = some (.int .i64 sc[k].at_) ∧ w'.cell? ⟨b, off + k * 4 + 1, none⟩ = some (.int .i64 sc[k].what) ∧ w'.cell? ⟨b, off + k * 4 + 2, none⟩ = some (.int .i64 sc[k].word) ∧ w'.cell? ⟨b, off + k * 4 + 3, none⟩ = some (.int .i64 sc[k].count)) := fun w' hb => (HA.out.below hb) k sc[k] (List.getElem?_eq_getElem hlt)
      obtain ⟨b, off, hp, a0, a1, a2, a3⟩ := hact
      have hao := HOK.out sc[k] (List.getElem_mem hlt)
      obtain ⟨ho0, ho1, ho2, ho3⟩ := hao
      unfold I64 at ho0 ho1 ho2 ho3
      have hat : pickN sc[k].at_ n < n := by have : (pickN sc[k].at_ n : Int) < n := pickN_lt (by omega); omega
      subst hp
      clear hl
      have hln : 0 < sc.length := by omega
      generalize sc[k] = o at *
      obtain ⟨oA, oW, oD, oC⟩ := o
      simp only at a0 a1 a2 a3 ho0 ho1 ho2 ho3 hat HAK
      have E1 := e1 _ hat
      have F1 := f1 _ hat
      clear e1 f1
      go_upto_region 11 with (go_at_call 18; refine (HP.out _ _ _ (by assumption) (by omega)).mono ?_; rintro e w' ⟨rfl, hw⟩; have hw' := hw.symm; clear hw; subst hw')
      generalize pickN oA n = at_ at *
      have hatI : (at_ : Int) < (n : Int) := by omega
      have hk7 : pickN oW 7 < 7 := by have : (pickN oW 7 : Int) < 7 := pickN_lt (by omega); omega
      have hw3 : pickN oD 3 < 3 := by have : (pickN oD 3 : Int) < 3 := pickN_lt (by omega); omega
      have hc9 : pickN oC 9 < 9 := by have : (pickN oC 9 : Int) < 9 := pickN_lt (by omega); omega
      obtain ⟨hr, hsz⟩ := act_read hk7 hw3 hc9
      have HTX : Hid (∀ w, Calls Tryz.prog 24 #[.agg #[.int .i64 oA, .int .i64 oW, .int .i64 oD, .int .i64 oC]] w fun e w' => e = .returned (.string (actB (pickN oW 7) (pickN oD 3) (pickN oC 9))) ∧ Below w.heap.size w w') := fun w => actTextG w oA oW oD oC ho1 ho2 ho3
      generalize actB (pickN oW 7) (pickN oD 3) (pickN oC 9) = s at *
      generalize actC (pickN oW 7) (pickN oD 3) (pickN oC 9) = c at *
      obtain ⟨ra, hra⟩ : ∃ ra, r1 at_ = ra := ⟨_, rfl⟩
      obtain ⟨rb, hrb⟩ : ∃ rb, r2 at_ = rb := ⟨_, rfl⟩
      rw [hra] at E1
      rw [hrb] at F1
      have HACT : Hid (∀ w', Below W.heap.size W w' → w'.cell? ⟨b, off + k * 4, none⟩ = some (.int .i64 oA) ∧ w'.cell? ⟨b, off + k * 4 + 1, none⟩ = some (.int .i64 oW) ∧ w'.cell? ⟨b, off + k * 4 + 2, none⟩ = some (.int .i64 oD) ∧ w'.cell? ⟨b, off + k * 4 + 3, none⟩ = some (.int .i64 oC)) := fun w' hb => by
        obtain ⟨b', off', hp', d0, d1, d2, d3⟩ := HAK.out w' hb
        obtain ⟨rfl, rfl⟩ : b = b' ∧ off = off' := by simpa using hp'
        exact ⟨d0, d1, d2, d3⟩
      have HT1 : Hid (∀ w, OrdS W n g1 p1 c1 g2 p2 c2 r1 r2 (62 * (k / 4)) (k % 4) done w → Calls Tryz.prog 24 #[.agg #[.int .i64 oA, .int .i64 oW, .int .i64 oD, .int .i64 oC]] w fun e w' => e = .returned (.string s) ∧ (fun w' : World => w'.cell? ⟨g1, 0, none⟩ = some (.slice (some ⟨p1, 0, none⟩) n c1) ∧ w'.cell? ⟨p1, at_, none⟩ = some (.pointer (some ⟨ra, 0, none⟩)) ∧ w'.cell? ⟨b, off + k * 4, none⟩ = some (.int .i64 oA) ∧ w'.cell? ⟨b, off + k * 4 + 1, none⟩ = some (.int .i64 oW) ∧ w'.cell? ⟨b, off + k * 4 + 2, none⟩ = some (.int .i64 oD) ∧ w'.cell? ⟨b, off + k * 4 + 3, none⟩ = some (.int .i64 oC)) w' ∧ Hid (OrdS W n g1 p1 c1 g2 p2 c2 r1 r2 (62 * (k / 4)) (k % 4) done w')) := fun w h => by
        refine (HTX.out w).mono ?_
        rintro e w' ⟨he, hb⟩
        have h' := h.below hb
        obtain ⟨u0, -, u1, -⟩ := h'.cells
        exact ⟨he, ⟨u0, by rw [← hra]; exact u1 at_ hat, HACT.out w' h'.old⟩, h'⟩
      have HT2 : Hid (∀ z w, OrdM W n g1 p1 c1 g2 p2 c2 r1 r2 (62 * (k / 4)) (k % 4) done at_ c z w → Calls Tryz.prog 24 #[.agg #[.int .i64 oA, .int .i64 oW, .int .i64 oD, .int .i64 oC]] w fun e w' => e = .returned (.string s) ∧ (fun w' : World => w'.cell? ⟨g2, 0, none⟩ = some (.slice (some ⟨p2, 0, none⟩) n c2) ∧ w'.cell? ⟨p2, at_, none⟩ = some (.pointer (some ⟨rb, 0, none⟩)) ∧ w'.cell? ⟨b, off + k * 4, none⟩ = some (.int .i64 oA) ∧ w'.cell? ⟨b, off + k * 4 + 1, none⟩ = some (.int .i64 oW) ∧ w'.cell? ⟨b, off + k * 4 + 2, none⟩ = some (.int .i64 oD) ∧ w'.cell? ⟨b, off + k * 4 + 3, none⟩ = some (.int .i64 oC)) w' ∧ Hid (OrdM W n g1 p1 c1 g2 p2 c2 r1 r2 (62 * (k / 4)) (k % 4) done at_ c z w')) := fun z w h => by
        refine (HTX.out w).mono ?_
        rintro e w' ⟨he, hb⟩
        have h' := h.below hb
        obtain ⟨-, u0, -, u1, u2⟩ := h'.cells
        exact ⟨he, ⟨u0, by rw [← hrb]; exact u1 at_ hat, HACT.out w' u2⟩, h'⟩
      have HD1 : Hid (∀ w, OrdS W n g1 p1 c1 g2 p2 c2 r1 r2 (62 * (k / 4)) (k % 4) done w → Calls Tryz.prog 20 #[.pointer (some ⟨ra, 0, none⟩), .string s] w fun e w' => ∃ z, e = .returned (.int .i64 z) ∧ (z = 0 ∨ z = 3) ∧ (fun w' : World => w'.cell? ⟨g1, 0, none⟩ = some (.slice (some ⟨p1, 0, none⟩) n c1) ∧ w'.cell? ⟨p1, at_, none⟩ = some (.pointer (some ⟨ra, 0, none⟩)) ∧ w'.cell? ⟨b, off + k * 4, none⟩ = some (.int .i64 oA) ∧ w'.cell? ⟨b, off + k * 4 + 1, none⟩ = some (.int .i64 oW) ∧ w'.cell? ⟨b, off + k * 4 + 2, none⟩ = some (.int .i64 oD) ∧ w'.cell? ⟨b, off + k * 4 + 3, none⟩ = some (.int .i64 oC)) w' ∧ (fun w' : World => w'.cell? ⟨g2, 0, none⟩ = some (.slice (some ⟨p2, 0, none⟩) n c2) ∧ w'.cell? ⟨p2, at_, none⟩ = some (.pointer (some ⟨rb, 0, none⟩)) ∧ w'.cell? ⟨b, off + k * 4, none⟩ = some (.int .i64 oA) ∧ w'.cell? ⟨b, off + k * 4 + 1, none⟩ = some (.int .i64 oW) ∧ w'.cell? ⟨b, off + k * 4 + 2, none⟩ = some (.int .i64 oD) ∧ w'.cell? ⟨b, off + k * 4 + 3, none⟩ = some (.int .i64 oC)) w' ∧ Hid (OrdM W n g1 p1 c1 g2 p2 c2 r1 r2 (62 * (k / 4)) (k % 4) done at_ c z w')) := fun w h => by
        have hd := ord_do1 HG.out hat (k := k % 4) (by omega) (by omega) s hsz hr h
        rw [hra] at hd
        refine hd.mono ?_
        rintro e w' ⟨z, he, hz, h'⟩
        obtain ⟨u0, u1, u2, u3, u4⟩ := h'.cells
        exact ⟨z, he, hz, ⟨u0, by rw [← hra]; exact u2 at_ hat, HACT.out w' u4⟩, ⟨u1, by rw [← hrb]; exact u3 at_ hat, HACT.out w' u4⟩, h'⟩
      have HD2 : Hid (∀ z w, OrdM W n g1 p1 c1 g2 p2 c2 r1 r2 (62 * (k / 4)) (k % 4) done at_ c z w → Calls Tryz.prog 20 #[.pointer (some ⟨rb, 0, none⟩), .string s] w fun e w' => e = .returned (.int .i64 z) ∧ (fun w' : World => w'.cell? ⟨g2, 0, none⟩ = some (.slice (some ⟨p2, 0, none⟩) n c2) ∧ w'.cell? ⟨p2, at_, none⟩ = some (.pointer (some ⟨rb, 0, none⟩)) ∧ w'.cell? ⟨b, off + k * 4, none⟩ = some (.int .i64 oA) ∧ w'.cell? ⟨b, off + k * 4 + 1, none⟩ = some (.int .i64 oW) ∧ w'.cell? ⟨b, off + k * 4 + 2, none⟩ = some (.int .i64 oD) ∧ w'.cell? ⟨b, off + k * 4 + 3, none⟩ = some (.int .i64 oC)) w' ∧ Hid (OrdS W n g1 p1 c1 g2 p2 c2 r1 r2 (62 * (k / 4)) (k % 4 + 1) (if z = 0 then done + 1 else done) w')) := fun z w h => by
        have hd := ord_do2 HG.out hat (k := k % 4) (by omega) (by omega) (by omega) s hsz hr h
        rw [hrb] at hd
        refine hd.mono ?_
        rintro e w' ⟨he, h'⟩
        obtain ⟨-, u1, -, u3⟩ := h'.cells
        exact ⟨he, ⟨u1, by rw [← hrb]; exact u3 at_ hat, HACT.out w' h'.old⟩, h'⟩
      have HId : Hid (OrdS W n g1 p1 c1 g2 p2 c2 r1 r2 (62 * (k / 4)) (k % 4) done wr.drew) := HI.out.below (Below.refl _ wr).drew
      clear HTX HP
      have hS : (fun w' : World => w'.cell? ⟨g1, 0, none⟩ = some (.slice (some ⟨p1, 0, none⟩) n c1) ∧ w'.cell? ⟨p1, at_, none⟩ = some (.pointer (some ⟨ra, 0, none⟩)) ∧ w'.cell? ⟨b, off + k * 4, none⟩ = some (.int .i64 oA) ∧ w'.cell? ⟨b, off + k * 4 + 1, none⟩ = some (.int .i64 oW) ∧ w'.cell? ⟨b, off + k * 4 + 2, none⟩ = some (.int .i64 oD) ∧ w'.cell? ⟨b, off + k * 4 + 3, none⟩ = some (.int .i64 oC)) wr.drew := ⟨e0, E1, a0, a1, a2, a3⟩
      refine wp_region_held (S := (fun w' : World => w'.cell? ⟨g1, 0, none⟩ = some (.slice (some ⟨p1, 0, none⟩) n c1) ∧ w'.cell? ⟨p1, at_, none⟩ = some (.pointer (some ⟨ra, 0, none⟩)) ∧ w'.cell? ⟨b, off + k * 4, none⟩ = some (.int .i64 oA) ∧ w'.cell? ⟨b, off + k * 4 + 1, none⟩ = some (.int .i64 oW) ∧ w'.cell? ⟨b, off + k * 4 + 2, none⟩ = some (.int .i64 oD) ∧ w'.cell? ⟨b, off + k * 4 + 3, none⟩ = some (.int .i64 oC))) hmx ?_
      refine wpAnyH_take (i := 0) (v := (.pointer (some ⟨g1, 0, none⟩))) rfl (by kernel_rfl) (by kernel_rfl) (by kernel_rfl) (fun _ _ _ h => h) (Or.inl ⟨by rfl, ?_⟩) hS ?_
      · intro W hSw
        obtain ⟨s0, s1, s2, s3, s4, s5⟩ := hSw
        go_simp
      dsimp only [List.getElem_toArray, List.getElem_cons_zero, List.getElem_cons_succ]
      simp only [Act.put, List.setIfInBounds_toArray, List.set_cons_zero, List.set_cons_succ]
      refine wpAnyH_take (i := 1) (v := (.pointer (some ⟨g1, 0, none⟩))) rfl (by kernel_rfl) (by kernel_rfl) (by kernel_rfl) (fun _ _ _ h => h) (Or.inl ⟨by rfl, ?_⟩) hS ?_
      · intro W hSw
        obtain ⟨s0, s1, s2, s3, s4, s5⟩ := hSw
        go_simp
      dsimp only [List.getElem_toArray, List.getElem_cons_zero, List.getElem_cons_succ]
      simp only [Act.put, List.setIfInBounds_toArray, List.set_cons_zero, List.set_cons_succ]
      refine wpAnyH_take (i := 2) (v := (.pointer (some ⟨g1, 0, none⟩))) rfl (by kernel_rfl) (by kernel_rfl) (by kernel_rfl) (fun _ _ _ h => h) (Or.inl ⟨by rfl, ?_⟩) hS ?_
      · intro W hSw
        obtain ⟨s0, s1, s2, s3, s4, s5⟩ := hSw
        go_simp
      dsimp only [List.getElem_toArray, List.getElem_cons_zero, List.getElem_cons_succ]
      simp only [Act.put, List.setIfInBounds_toArray, List.set_cons_zero, List.set_cons_succ]
      refine wpAnyH_take (i := 3) (v := (.slice (some ⟨p1, 0, none⟩) n c1)) rfl (by kernel_rfl) (by kernel_rfl) (by kernel_rfl) (fun _ _ _ h => h) (Or.inl ⟨by rfl, ?_⟩) hS ?_
      · intro W hSw
        obtain ⟨s0, s1, s2, s3, s4, s5⟩ := hSw
        go_simp
      dsimp only [List.getElem_toArray, List.getElem_cons_zero, List.getElem_cons_succ]
      simp only [Act.put, List.setIfInBounds_toArray, List.set_cons_zero, List.set_cons_succ]
      refine wpAnyH_take (i := 4) (v := (.int .i64 (at_ : Int))) rfl (by kernel_rfl) (by kernel_rfl) (by kernel_rfl) (fun _ _ _ h => h) (Or.inl ⟨by rfl, ?_⟩) hS ?_
      · intro W hSw
        obtain ⟨s0, s1, s2, s3, s4, s5⟩ := hSw
        go_simp
      dsimp only [List.getElem_toArray, List.getElem_cons_zero, List.getElem_cons_succ]
      simp only [Act.put, List.setIfInBounds_toArray, List.set_cons_zero, List.set_cons_succ]
      refine wpAnyH_take (i := 5) (v := (.pointer (some ⟨p1, at_, none⟩))) rfl (by kernel_rfl) (by kernel_rfl) (by kernel_rfl) (fun _ _ _ h => h) (Or.inl ⟨by rfl, ?_⟩) hS ?_
      · intro W hSw
        obtain ⟨s0, s1, s2, s3, s4, s5⟩ := hSw
        go_simp
        all_goals (try (intro hz; omega))
      dsimp only [List.getElem_toArray, List.getElem_cons_zero, List.getElem_cons_succ]
      simp only [Act.put, List.setIfInBounds_toArray, List.set_cons_zero, List.set_cons_succ]
      refine wpAnyH_take (i := 6) (v := (.pointer (some ⟨ra, 0, none⟩))) rfl (by kernel_rfl) (by kernel_rfl) (by kernel_rfl) (fun _ _ _ h => h) (Or.inl ⟨by rfl, ?_⟩) hS ?_
      · intro W hSw
        obtain ⟨s0, s1, s2, s3, s4, s5⟩ := hSw
        go_simp
      dsimp only [List.getElem_toArray, List.getElem_cons_zero, List.getElem_cons_succ]
      simp only [Act.put, List.setIfInBounds_toArray, List.set_cons_zero, List.set_cons_succ]
      refine wpAnyH_take (i := 7) (v := (.slice (some ⟨b, off, none⟩) sc.length cap)) rfl (by kernel_rfl) (by kernel_rfl) (by kernel_rfl) (fun _ _ _ h => h) (Or.inl ⟨by rfl, ?_⟩) hS ?_
      · intro W hSw
        obtain ⟨s0, s1, s2, s3, s4, s5⟩ := hSw
        go_simp
      dsimp only [List.getElem_toArray, List.getElem_cons_zero, List.getElem_cons_succ]
      simp only [Act.put, List.setIfInBounds_toArray, List.set_cons_zero, List.set_cons_succ]
      refine wpAnyH_take (i := 8) (v := (.int .i64 (k : Int))) rfl (by kernel_rfl) (by kernel_rfl) (by kernel_rfl) (fun _ _ _ h => h) (Or.inl ⟨by rfl, ?_⟩) hS ?_
      · intro W hSw
        obtain ⟨s0, s1, s2, s3, s4, s5⟩ := hSw
        go_simp
      dsimp only [List.getElem_toArray, List.getElem_cons_zero, List.getElem_cons_succ]
      simp only [Act.put, List.setIfInBounds_toArray, List.set_cons_zero, List.set_cons_succ]
      refine wpAnyH_take (i := 9) (v := (.pointer (some ⟨b, off + k * 4, none⟩))) rfl (by kernel_rfl) (by kernel_rfl) (by kernel_rfl) (fun _ _ _ h => h) (Or.inl ⟨by rfl, ?_⟩) hS ?_
      · intro W hSw
        obtain ⟨s0, s1, s2, s3, s4, s5⟩ := hSw
        go_simp
        all_goals (try (intro hz; omega))
      dsimp only [List.getElem_toArray, List.getElem_cons_zero, List.getElem_cons_succ]
      simp only [Act.put, List.setIfInBounds_toArray, List.set_cons_zero, List.set_cons_succ]
      refine wpAnyH_take (i := 10) (v := (.agg #[.int .i64 oA, .int .i64 oW, .int .i64 oD, .int .i64 oC])) rfl (by kernel_rfl) (by kernel_rfl) (by kernel_rfl) (fun _ _ _ h => h) (Or.inl ⟨by rfl, ?_⟩) hS ?_
      · intro W hSw
        obtain ⟨s0, s1, s2, s3, s4, s5⟩ := hSw
        go_simp
      dsimp only [List.getElem_toArray, List.getElem_cons_zero, List.getElem_cons_succ]
      simp only [Act.put, List.setIfInBounds_toArray, List.set_cons_zero, List.set_cons_succ]
      refine wpAnyH_ready (rs := [11]) (by kernel_rfl) (by simp) ?_
      refine AllReadyH.cons rfl (fun K hK => ?_) AllReadyH.nil
      rw [if_pos (by rfl)]
      dsimp only [List.getElem_toArray, List.getElem_cons_zero, List.getElem_cons_succ]
      go_simp
      refine (HT1.out _ HId.out).mono ?_
      rintro e w3 ⟨rfl, hS3, H3⟩
      refine hK.out _ _ hS3 (fun _ => ?_)
      clear hK K
      try simp only [Act.put, List.setIfInBounds_toArray, List.set_cons_zero, List.set_cons_succ]
      refine wpAnyH_ready (rs := [12]) (by kernel_rfl) (by simp) ?_
      refine AllReadyH.cons rfl (fun K hK => ?_) AllReadyH.nil
      rw [if_pos (by rfl)]
      dsimp only [List.getElem_toArray, List.getElem_cons_zero, List.getElem_cons_succ]
      go_simp
      refine (HD1.out _ H3.out).mono ?_
      rintro e w4 ⟨z, rfl, hz, hS4, hT4, H4⟩
      refine hK.out _ _ hS4 (fun _ => ?_)
      clear hK K
      try simp only [Act.put, List.setIfInBounds_toArray, List.set_cons_zero, List.set_cons_succ]
      refine wpAnyH_ready (rs := [13]) (by kernel_rfl) (by simp) ?_
      refine AllReadyH.cons rfl (fun K hK => ?_) AllReadyH.nil
      rw [if_pos (by rfl)]
      dsimp only [List.getElem_toArray, List.getElem_cons_zero, List.getElem_cons_succ]
      go_simp
      refine hK.out _ _ hS4 (fun _ => ?_)
      clear hK K
      try simp only [Act.put, List.setIfInBounds_toArray, List.set_cons_zero, List.set_cons_succ]
      refine wpAnyH_done (by kernel_rfl) ?_ _
      clear hS
      have H4d : Hid (OrdM W n g1 p1 c1 g2 p2 c2 r1 r2 (62 * (k / 4)) (k % 4) done at_ c z w4.drew) := H4.out.below (Below.refl _ w4).drew
      go_upto_region 12 with fail
      have hS : (fun w' : World => w'.cell? ⟨g2, 0, none⟩ = some (.slice (some ⟨p2, 0, none⟩) n c2) ∧ w'.cell? ⟨p2, at_, none⟩ = some (.pointer (some ⟨rb, 0, none⟩)) ∧ w'.cell? ⟨b, off + k * 4, none⟩ = some (.int .i64 oA) ∧ w'.cell? ⟨b, off + k * 4 + 1, none⟩ = some (.int .i64 oW) ∧ w'.cell? ⟨b, off + k * 4 + 2, none⟩ = some (.int .i64 oD) ∧ w'.cell? ⟨b, off + k * 4 + 3, none⟩ = some (.int .i64 oC)) w4.drew := hT4
      refine wp_region_held (S := (fun w' : World => w'.cell? ⟨g2, 0, none⟩ = some (.slice (some ⟨p2, 0, none⟩) n c2) ∧ w'.cell? ⟨p2, at_, none⟩ = some (.pointer (some ⟨rb, 0, none⟩)) ∧ w'.cell? ⟨b, off + k * 4, none⟩ = some (.int .i64 oA) ∧ w'.cell? ⟨b, off + k * 4 + 1, none⟩ = some (.int .i64 oW) ∧ w'.cell? ⟨b, off + k * 4 + 2, none⟩ = some (.int .i64 oD) ∧ w'.cell? ⟨b, off + k * 4 + 3, none⟩ = some (.int .i64 oC))) hmx ?_
      refine wpAnyH_take (i := 0) (v := (.pointer (some ⟨g2, 0, none⟩))) rfl (by kernel_rfl) (by kernel_rfl) (by kernel_rfl) (fun _ _ _ h => h) (Or.inl ⟨by rfl, ?_⟩) hS ?_
      · intro W hSw
        obtain ⟨s0, s1, s2, s3, s4, s5⟩ := hSw
        go_simp
      dsimp only [List.getElem_toArray, List.getElem_cons_zero, List.getElem_cons_succ]
      simp only [Act.put, List.setIfInBounds_toArray, List.set_cons_zero, List.set_cons_succ]
      refine wpAnyH_take (i := 1) (v := (.pointer (some ⟨g2, 0, none⟩))) rfl (by kernel_rfl) (by kernel_rfl) (by kernel_rfl) (fun _ _ _ h => h) (Or.inl ⟨by rfl, ?_⟩) hS ?_
      · intro W hSw
        obtain ⟨s0, s1, s2, s3, s4, s5⟩ := hSw
        go_simp
      dsimp only [List.getElem_toArray, List.getElem_cons_zero, List.getElem_cons_succ]
      simp only [Act.put, List.setIfInBounds_toArray, List.set_cons_zero, List.set_cons_succ]
      refine wpAnyH_take (i := 2) (v := (.pointer (some ⟨g2, 0, none⟩))) rfl (by kernel_rfl) (by kernel_rfl) (by kernel_rfl) (fun _ _ _ h => h) (Or.inl ⟨by rfl, ?_⟩) hS ?_
      · intro W hSw
        obtain ⟨s0, s1, s2, s3, s4, s5⟩ := hSw
        go_simp
      dsimp only [List.getElem_toArray, List.getElem_cons_zero, List.getElem_cons_succ]
      simp only [Act.put, List.setIfInBounds_toArray, List.set_cons_zero, List.set_cons_succ]
      refine wpAnyH_take (i := 3) (v := (.slice (some ⟨p2, 0, none⟩) n c2)) rfl (by kernel_rfl) (by kernel_rfl) (by kernel_rfl) (fun _ _ _ h => h) (Or.inl ⟨by rfl, ?_⟩) hS ?_
      · intro W hSw
        obtain ⟨s0, s1, s2, s3, s4, s5⟩ := hSw
        go_simp
      dsimp only [List.getElem_toArray, List.getElem_cons_zero, List.getElem_cons_succ]
      simp only [Act.put, List.setIfInBounds_toArray, List.set_cons_zero, List.set_cons_succ]
      refine wpAnyH_take (i := 4) (v := (.int .i64 (at_ : Int))) rfl (by kernel_rfl) (by kernel_rfl) (by kernel_rfl) (fun _ _ _ h => h) (Or.inl ⟨by rfl, ?_⟩) hS ?_
      · intro W hSw
        obtain ⟨s0, s1, s2, s3, s4, s5⟩ := hSw
        go_simp
      dsimp only [List.getElem_toArray, List.getElem_cons_zero, List.getElem_cons_succ]
      simp only [Act.put, List.setIfInBounds_toArray, List.set_cons_zero, List.set_cons_succ]
      refine wpAnyH_take (i := 5) (v := (.pointer (some ⟨p2, at_, none⟩))) rfl (by kernel_rfl) (by kernel_rfl) (by kernel_rfl) (fun _ _ _ h => h) (Or.inl ⟨by rfl, ?_⟩) hS ?_
      · intro W hSw
        obtain ⟨s0, s1, s2, s3, s4, s5⟩ := hSw
        go_simp
        all_goals (try (intro hz; omega))
      dsimp only [List.getElem_toArray, List.getElem_cons_zero, List.getElem_cons_succ]
      simp only [Act.put, List.setIfInBounds_toArray, List.set_cons_zero, List.set_cons_succ]
      refine wpAnyH_take (i := 6) (v := (.pointer (some ⟨rb, 0, none⟩))) rfl (by kernel_rfl) (by kernel_rfl) (by kernel_rfl) (fun _ _ _ h => h) (Or.inl ⟨by rfl, ?_⟩) hS ?_
      · intro W hSw
        obtain ⟨s0, s1, s2, s3, s4, s5⟩ := hSw
        go_simp
      dsimp only [List.getElem_toArray, List.getElem_cons_zero, List.getElem_cons_succ]
      simp only [Act.put, List.setIfInBounds_toArray, List.set_cons_zero, List.set_cons_succ]
      refine wpAnyH_take (i := 7) (v := (.slice (some ⟨b, off, none⟩) sc.length cap)) rfl (by kernel_rfl) (by kernel_rfl) (by kernel_rfl) (fun _ _ _ h => h) (Or.inl ⟨by rfl, ?_⟩) hS ?_
      · intro W hSw
        obtain ⟨s0, s1, s2, s3, s4, s5⟩ := hSw
        go_simp
      dsimp only [List.getElem_toArray, List.getElem_cons_zero, List.getElem_cons_succ]
      simp only [Act.put, List.setIfInBounds_toArray, List.set_cons_zero, List.set_cons_succ]
      refine wpAnyH_take (i := 8) (v := (.int .i64 (k : Int))) rfl (by kernel_rfl) (by kernel_rfl) (by kernel_rfl) (fun _ _ _ h => h) (Or.inl ⟨by rfl, ?_⟩) hS ?_
      · intro W hSw
        obtain ⟨s0, s1, s2, s3, s4, s5⟩ := hSw
        go_simp
      dsimp only [List.getElem_toArray, List.getElem_cons_zero, List.getElem_cons_succ]
      simp only [Act.put, List.setIfInBounds_toArray, List.set_cons_zero, List.set_cons_succ]
      refine wpAnyH_take (i := 9) (v := (.pointer (some ⟨b, off + k * 4, none⟩))) rfl (by kernel_rfl) (by kernel_rfl) (by kernel_rfl) (fun _ _ _ h => h) (Or.inl ⟨by rfl, ?_⟩) hS ?_
      · intro W hSw
        obtain ⟨s0, s1, s2, s3, s4, s5⟩ := hSw
        go_simp
        all_goals (try (intro hz; omega))
      dsimp only [List.getElem_toArray, List.getElem_cons_zero, List.getElem_cons_succ]
      simp only [Act.put, List.setIfInBounds_toArray, List.set_cons_zero, List.set_cons_succ]
      refine wpAnyH_take (i := 10) (v := (.agg #[.int .i64 oA, .int .i64 oW, .int .i64 oD, .int .i64 oC])) rfl (by kernel_rfl) (by kernel_rfl) (by kernel_rfl) (fun _ _ _ h => h) (Or.inl ⟨by rfl, ?_⟩) hS ?_
      · intro W hSw
        obtain ⟨s0, s1, s2, s3, s4, s5⟩ := hSw
        go_simp
      dsimp only [List.getElem_toArray, List.getElem_cons_zero, List.getElem_cons_succ]
      simp only [Act.put, List.setIfInBounds_toArray, List.set_cons_zero, List.set_cons_succ]
      refine wpAnyH_ready (rs := [11]) (by kernel_rfl) (by simp) ?_
      refine AllReadyH.cons rfl (fun K hK => ?_) AllReadyH.nil
      rw [if_pos (by rfl)]
      dsimp only [List.getElem_toArray, List.getElem_cons_zero, List.getElem_cons_succ]
      go_simp
      refine (HT2.out _ _ H4d.out).mono ?_
      rintro e w5 ⟨rfl, hS5, H5⟩
      refine hK.out _ _ hS5 (fun _ => ?_)
      clear hK K
      try simp only [Act.put, List.setIfInBounds_toArray, List.set_cons_zero, List.set_cons_succ]
      refine wpAnyH_ready (rs := [12]) (by kernel_rfl) (by simp) ?_
      refine AllReadyH.cons rfl (fun K hK => ?_) AllReadyH.nil
      rw [if_pos (by rfl)]
      dsimp only [List.getElem_toArray, List.getElem_cons_zero, List.getElem_cons_succ]
      go_simp
      refine (HD2.out _ _ H5.out).mono ?_
      rintro e w6 ⟨rfl, hS6, H6⟩
      refine hK.out _ _ hS6 (fun _ => ?_)
      clear hK K
      try simp only [Act.put, List.setIfInBounds_toArray, List.set_cons_zero, List.set_cons_succ]
      refine wpAnyH_ready (rs := [13]) (by kernel_rfl) (by simp) ?_
      refine AllReadyH.cons rfl (fun K hK => ?_) AllReadyH.nil
      rw [if_pos (by rfl)]
      dsimp only [List.getElem_toArray, List.getElem_cons_zero, List.getElem_cons_succ]
      go_simp
      refine hK.out _ _ hS6 (fun _ => ?_)
      clear hK K
      try simp only [Act.put, List.setIfInBounds_toArray, List.set_cons_zero, List.set_cons_succ]
      refine wpAnyH_done (by kernel_rfl) ?_ _
      clear hS
      go_upto_region 13 with fail
      have HR1 : Hid (∀ d w, OrdS W n g1 p1 c1 g2 p2 c2 r1 r2 (62 * (k / 4)) (k % 4 + 1) d w → Calls Tryz.prog 21 #[.pointer (some ⟨g1, 0, none⟩), .int .i64 62, .bool false, .bool false] w fun e w' => e = .returned (.bool true) ∧ Hid (OrdR W n g1 p1 c1 g2 p2 c2 r1 r2 (62 * (k / 4)) d w')) := fun d w h => ord_rest1 HG.out (by omega) false false h
      have HR2 : Hid (∀ d w, OrdR W n g1 p1 c1 g2 p2 c2 r1 r2 (62 * (k / 4)) d w → Calls Tryz.prog 21 #[.pointer (some ⟨g2, 0, none⟩), .int .i64 62, .bool true, .bool true] w fun e w' => e = .returned (.bool true) ∧ Hid (OrdC W n g1 p1 c1 g2 p2 c2 r1 r2 (62 * (k / 4) + 62) d w')) := fun d w h => ord_rest2 HG.out (by omega) true true h
      have HA1 : Hid (∀ (d : Nat) (x : Int) w, x = (d : Int) → OrdC W n g1 p1 c1 g2 p2 c2 r1 r2 (62 * (k / 4) + 62) d w → Calls Tryz.prog 22 #[.pointer (some ⟨g1, 0, none⟩), .int .i64 x] w fun e w' => e = .returned (.bool true) ∧ Hid (OrdC W n g1 p1 c1 g2 p2 c2 r1 r2 (62 * (k / 4) + 62) d w')) := fun d x w hx h => by rw [hx]; exact ord_alike1 HG.out h
      obtain ⟨q1, hq1⟩ : ∃ q, r1 0 = q := ⟨_, rfl⟩
      obtain ⟨q2, hq2⟩ : ∃ q, r2 0 = q := ⟨_, rfl⟩
      have HA2 : Hid (∀ (d : Nat) (x : Int) w, x = (d : Int) → OrdC W n g1 p1 c1 g2 p2 c2 r1 r2 (62 * (k / 4) + 62) d w → Calls Tryz.prog 22 #[.pointer (some ⟨g2, 0, none⟩), .int .i64 x] w fun e w' => e = .returned (.bool true) ∧ (w'.cell? ⟨g1, 0, none⟩ = some (.slice (some ⟨p1, 0, none⟩) n c1) ∧ w'.cell? ⟨g2, 0, none⟩ = some (.slice (some ⟨p2, 0, none⟩) n c2) ∧ w'.cell? ⟨p1, 0, none⟩ = some (.pointer (some ⟨q1, 0, none⟩)) ∧ w'.cell? ⟨p2, 0, none⟩ = some (.pointer (some ⟨q2, 0, none⟩))) ∧ Hid (OrdC W n g1 p1 c1 g2 p2 c2 r1 r2 (62 * (k / 4) + 62) d w')) := fun d x w hx h => by
        rw [hx]
        refine (ord_alike2 HG.out h).mono ?_
        rintro e w' ⟨he, h'⟩
        obtain ⟨u0, u1, u2, u3⟩ := h'.toS.cells
        exact ⟨he, ⟨u0, u1, by rw [← hq1]; exact u2 0 (by omega), by rw [← hq2]; exact u3 0 (by omega)⟩, h'⟩
      have HV1 : Hid (∀ d w, OrdC W n g1 p1 c1 g2 p2 c2 r1 r2 (62 * (k / 4) + 62) d w → Calls Tryz.prog 23 #[.pointer (some ⟨q1, 0, none⟩)] w fun e w' => ∃ t, e = .returned (.string t) ∧ (w'.cell? ⟨g1, 0, none⟩ = some (.slice (some ⟨p1, 0, none⟩) n c1) ∧ w'.cell? ⟨g2, 0, none⟩ = some (.slice (some ⟨p2, 0, none⟩) n c2) ∧ w'.cell? ⟨p1, 0, none⟩ = some (.pointer (some ⟨q1, 0, none⟩)) ∧ w'.cell? ⟨p2, 0, none⟩ = some (.pointer (some ⟨q2, 0, none⟩))) ∧ Hid (OrdV W n g1 p1 c1 g2 p2 c2 r1 r2 (62 * (k / 4) + 62) d t w')) := fun d w h => by
        have hv := ord_view1 HG.out h
        rw [hq1] at hv
        refine hv.mono ?_
        rintro e w' ⟨t, he, h'⟩
        obtain ⟨S, S2, hD, -⟩ := id h'
        exact ⟨t, he, ⟨hD.one.c0, hD.swap.one.c0, by rw [← hq1]; exact hD.one.ptr (by omega), by rw [← hq2]; exact hD.swap.one.ptr (by omega)⟩, h'⟩
      have HV2 : Hid (∀ d t w, OrdV W n g1 p1 c1 g2 p2 c2 r1 r2 (62 * (k / 4) + 62) d t w → Calls Tryz.prog 23 #[.pointer (some ⟨q2, 0, none⟩)] w fun e w' => e = .returned (.string t) ∧ Hid (OrdC W n g1 p1 c1 g2 p2 c2 r1 r2 (62 * (k / 4) + 62) d w')) := fun d t w h => by
        have hv := ord_view2 HG.out h
        rw [hq2] at hv
        exact hv
      have hrem : Int.tmod (k : Int) 4 = ((k % 4 : Nat) : Int) := by rw [Int.tmod_eq_emod_of_nonneg (by omega)]; omega
      have hn0 : (0 : Int) < (n : Int) := by omega
      clear hS3 hS4 hT4 hS5 hS6 HD1 HD2 HT1 HT2 H3 H4 H4d H5 HId e0 f0 E1 F1 a0 a1 a2 a3 HACT HAK
      rcases hz with rfl | rfl
      · rw [if_pos rfl] at H6
        by_cases hm : k % 4 = 3
        · rw [hm] at hrem
          go_wp2_with (first
            | (go_at_call 23; refine (HV2.out _ _ _ HB1.out).mono ?_; rintro e wc ⟨rfl, HB2⟩)
            | (go_at_call 23; refine (HV1.out _ _ HA2'.out).mono ?_; rintro e wb ⟨t, rfl, ⟨m0, m1, m2, m3⟩, HB1⟩)
            | (go_at_call 22; refine (HA2.out _ _ _ (by omega) HA1'.out).mono ?_; rintro e wa ⟨rfl, ⟨l0, l1, l2, l3⟩, HA2'⟩)
            | (go_at_call 22; refine (HA1.out _ _ _ (by omega) HR2'.out).mono ?_; rintro e w9 ⟨rfl, HA1'⟩)
            | (go_at_call 21; refine (HR2.out _ _ HR1'.out).mono ?_; rintro e w8 ⟨rfl, HR2'⟩)
            | (go_at_call 21; refine (HR1.out _ _ H6.out).mono ?_; rintro e w7 ⟨rfl, HR1'⟩))
          go_roundw
          case rel => exact ⟨k + 1, done + 1, by omega, by omega, by omega, by simp, by simp, by have h := HB2.out.toS; rw [show 62 * (k / 4) + 62 = 62 * ((k + 1) / 4) by omega] at h; rw [show (k + 1) % 4 = 0 by omega]; exact h⟩
          case measure => simp [intOf]; omega
        · have hne : ¬ (((k % 4 : Nat) : Int) = 3) := by omega
          go_wp2
          go_roundw
          case rel => exact ⟨k + 1, done + 1, by omega, by omega, by omega, by simp, by simp, by have h := H6.out; rw [show 62 * (k / 4) = 62 * ((k + 1) / 4) by omega, show k % 4 + 1 = (k + 1) % 4 by omega] at h; exact h⟩
          case measure => simp [intOf]; omega
      · rw [if_neg (by decide)] at H6
        by_cases hm : k % 4 = 3
        · rw [hm] at hrem
          go_wp2_with (first
            | (go_at_call 23; refine (HV2.out _ _ _ HB1.out).mono ?_; rintro e wc ⟨rfl, HB2⟩)
            | (go_at_call 23; refine (HV1.out _ _ HA2'.out).mono ?_; rintro e wb ⟨t, rfl, ⟨m0, m1, m2, m3⟩, HB1⟩)
            | (go_at_call 22; refine (HA2.out _ _ _ (by omega) HA1'.out).mono ?_; rintro e wa ⟨rfl, ⟨l0, l1, l2, l3⟩, HA2'⟩)
            | (go_at_call 22; refine (HA1.out _ _ _ (by omega) HR2'.out).mono ?_; rintro e w9 ⟨rfl, HA1'⟩)
            | (go_at_call 21; refine (HR2.out _ _ HR1'.out).mono ?_; rintro e w8 ⟨rfl, HR2'⟩)
            | (go_at_call 21; refine (HR1.out _ _ H6.out).mono ?_; rintro e w7 ⟨rfl, HR1'⟩))
          go_roundw
          case rel => exact ⟨k + 1, done, by omega, by omega, by omega, by simp, by simp, by have h := HB2.out.toS; rw [show 62 * (k / 4) + 62 = 62 * ((k + 1) / 4) by omega] at h; rw [show (k + 1) % 4 = 0 by omega]; exact h⟩
          case measure => simp [intOf]; omega
        · have hne : ¬ (((k % 4 : Nat) : Int) = 3) := by omega
          go_wp2
          go_roundw
          case rel => exact ⟨k + 1, done, by omega, by omega, by omega, by simp, by simp, by have h := H6.out; rw [show 62 * (k / 4) = 62 * ((k + 1) / 4) by omega, show k % 4 + 1 = (k + 1) % 4 by omega] at h; exact h⟩
          case measure => simp [intOf]; omega
    · have E1 := e1 0 (by omega)
      obtain ⟨q1, hq1⟩ : ∃ q, r1 0 = q := ⟨_, rfl⟩
      rw [hq1] at E1
      have HL1 : Hid (Calls Tryz.prog 20 #[.pointer (some ⟨q1, 0, none⟩), .string ⟨#[110, 111, 116, 101, 32, 122]⟩] wr fun e w' => e = .returned (.int .i64 0) ∧ Hid (OrdF W n g1 p1 c1 r1 (62 * (k / 4)) (done + 1) w')) := by
        have h := ord_last HG.out (by omega) (by omega) HI.out
        rw [hq1] at h
        exact h
      have HL2 : Hid (∀ w, OrdF W n g1 p1 c1 r1 (62 * (k / 4)) (done + 1) w → Calls Tryz.prog 21 #[.pointer (some ⟨g1, 0, none⟩), .int .i64 62, .bool false, .bool false] w fun e w' => e = .returned (.bool true) ∧ Hid (OrdG W n g1 p1 c1 r1 (done + 1) w')) := fun w h => ord_lastR HG.out (by omega) false false h
      have HL3 : Hid (∀ (x : Int) w, x = ((done + 1 : Nat) : Int) → OrdG W n g1 p1 c1 r1 (done + 1) w → Calls Tryz.prog 22 #[.pointer (some ⟨g1, 0, none⟩), .int .i64 x] w fun e w' => e = .returned (.bool true) ∧ Hid (Below W.heap.size W w')) := fun x w hx h => by
        rw [hx]
        exact ord_lastA HG.out h
      have hn0 : (0 : Int) < (n : Int) := by omega
      clear HI HP e1 f1 f0 HA HOK HG
      by_cases h1 : k < sc.length
      · have hki : (k : Int) < (sc.length : Int) := by omega
        have hki2 : ¬ (k : Int) < 40 := by omega
        go_wp2_with (first
          | (go_at_call 22; refine (HL3.out _ _ (by omega) H8.out).mono ?_; rintro e w9 ⟨rfl, H9⟩)
          | (go_at_call 21; refine (HL2.out _ H7.out).mono ?_; rintro e w8 ⟨rfl, H8⟩)
          | (go_at_call 20; refine HL1.out.mono ?_; rintro e w7 ⟨rfl, H7⟩))
        go_ret
        exact ⟨rfl, H9.out⟩
      · have hki : ¬ (k : Int) < (sc.length : Int) := by omega
        go_wp2_with (first
          | (go_at_call 22; refine (HL3.out _ _ (by omega) H8.out).mono ?_; rintro e w9 ⟨rfl, H9⟩)
          | (go_at_call 21; refine (HL2.out _ H7.out).mono ?_; rintro e w8 ⟨rfl, H8⟩)
          | (go_at_call 20; refine HL1.out.mono ?_; rintro e w7 ⟨rfl, H7⟩))
        go_ret
        exact ⟨rfl, H9.out⟩

end Go.Proofs.YtckmppkdpnhodaaGreatDoor
