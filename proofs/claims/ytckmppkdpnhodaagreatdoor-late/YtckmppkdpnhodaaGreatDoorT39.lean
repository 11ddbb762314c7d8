/-
  Late.
-/
import Derived.Test.YtckmppkdpnhodaaGreatDoorT38
namespace Go.Proofs.YtckmppkdpnhodaaGreatDoor
set_option linter.unusedVariables false
set_option linter.unusedSimpArgs false
open Go.RowKit Go.Proofs

attribute [local go_sem ↓] Go.wp_at_zero Go.wp_at_succ

theorem late_go0 {w0 W : World} {n gb pb pc : Nat} {rbs : Nat → Nat} (hg : Glob w0) (h : GrpR w0 n 50 1000 gb pb pc rbs (fun _ => Sr.empty) W) :
    Calls Tryz.prog 20 #[.pointer (some ⟨rbs 0, 0, none⟩), .string ⟨#[97, 100, 100, 32, 116, 101, 97, 32, 49]⟩] W fun e w' => e = .returned (.int .i64 0) ∧ LatS w0 n gb pb pc rbs 0 1 (.slice none 0 0) 0 w' := by
  have h' := late_start h
  obtain ⟨d, hr, hG, h1, h2, h3⟩ := h
  exact late_do0 hg h' _ (by decide +kernel) (c := ⟨.closed, ⟨#[116, 101, 97]⟩, 1⟩) (by kernel_rfl) (fun _ => rfl) ⟨_, d, [], [], hr, hG, AirRow.nil _ _ _ _, trivial, by simp, rfl, (Sit.empty n).tot, fun _ _ => Nat.le_refl _, rfl, h1, h2, h3⟩

set_option maxRecDepth 100000 in
set_option maxHeartbeats 8000000 in
theorem lateG (W : World) (hg : Glob W) (nr : Int) (hnr : -9223372036854775808 ≤ nr ∧ nr ≤ 9223372036854775807) (lo : Int) (hlo : -9223372036854775808 ≤ lo ∧ lo ≤ 9223372036854775807) (p : Option Addr) (cap : Nat) (sc : List Ac) (hl : sc.length ≤ maxLen) (hok : ∀ o ∈ sc, o.ok) (hA : ActsAt W p sc) :
    Calls Tryz.prog 10 #[.int .i64 nr, .slice p sc.length cap, .int .i64 lo] W fun e w' => e = .returned (.bool true) ∧ Below W.heap.size W w' := by
  obtain ⟨iS, hi0, hi1, hi2, hi3⟩ := info_parts Tryz.info_sent
  have HG : Hid (Glob W) := hg
  have HA : Hid (ActsAt W p sc) := hA
  have HOK : Hid (∀ o ∈ sc, o.ok) := hok
  have HP : Hid (∀ (c m : Int) (w : World), (-9223372036854775808 ≤ c ∧ c ≤ 9223372036854775807) → (0 < m ∧ m ≤ 100) → Calls Tryz.prog 18 #[.int .i64 c, .int .i64 m] w fun e w' => e = .returned (.int .i64 (pickN c m : Int)) ∧ w' = w) := fun c m w hc hm => pickK c m w hc hm
  have hq : pickN nr 4 < 4 := by have : (pickN nr 4 : Int) < 4 := pickN_lt (by omega); omega
  have HBG : Hid (Calls Tryz.prog 19 #[.int .i64 (2 + (pickN nr 4 : Int))] W fun e w' => ∃ gb pb pc rbs r0, e = .returned (.pointer (some ⟨gb, 0, none⟩)) ∧ w'.cell? ⟨gb, 0, none⟩ = some (.slice (some ⟨pb, 0, none⟩) (2 + pickN nr 4) pc) ∧ w'.cell? ⟨pb, 0, none⟩ = some (.pointer (some ⟨r0, 0, none⟩)) ∧ Hid (rbs 0 = r0 ∧ GrpR W (2 + pickN nr 4) 50 1000 gb pb pc rbs (fun _ => Sr.empty) w')) := by
    have := begunR (2 + pickN nr 4) (by omega) W (LB := 50) (NB := 1000) (by omega) (by omega)
    have e : ((2 + pickN nr 4 : Nat) : Int) = 2 + (pickN nr 4 : Int) := by omega
    rw [e] at this
    refine this.mono ?_
    rintro e w' ⟨gb, pb, pc, rbs, he, h⟩
    exact ⟨gb, pb, pc, rbs, rbs 0, he, h.c0, h.ptr (by omega), rfl, h⟩
  have HD0 : Hid (∀ gb pb pc rbs r0 w, (rbs 0 = r0 ∧ GrpR W (2 + pickN nr 4) 50 1000 gb pb pc rbs (fun _ => Sr.empty) w) → Calls Tryz.prog 20 #[.pointer (some ⟨r0, 0, none⟩), .string ⟨#[97, 100, 100, 32, 116, 101, 97, 32, 49]⟩] w fun e w' => e = .returned (.int .i64 0) ∧ Hid (LatS W (2 + pickN nr 4) gb pb pc rbs 0 1 (.slice none 0 0) 0 w')) := fun gb pb pc rbs r0 w h => by
    rw [← h.1]
    exact late_go0 HG.out h.2
  clear hg hA hok
  unfold maxLen at hl
  have hq0 : (0 : Int) < ((2 + pickN nr 4 : Nat) : Int) := by omega
  go_enter Tryz.func10, Tryz.ntmps10
  have hmx : Tryz.prog.follows .mixedOrders = true := by kernel_rfl
  go_wp2_with (first
    | (go_at_call 18; refine (HP.out _ _ _ (by assumption) (by omega)).mono ?_; rintro e w' ⟨rfl, hw⟩; have hw' := hw.symm; clear hw; subst hw')
    | (go_at_call 20; refine (HD0.out _ _ _ _ _ _ HB1.out).mono ?_; rintro e w2 ⟨rfl, HST⟩)
    | (go_at_call 19; refine HBG.out.mono ?_; rintro e w1 ⟨gb, pb, pc, rbs, r0, rfl, b0, b1, HB1⟩))
  clear HBG HD0 HB1 hnr b0 b1 hq0
  generalize pickN nr 4 = q at *
  obtain ⟨n, hnq⟩ : ∃ n, 2 + q = n := ⟨_, rfl⟩
  have hni : 2 + (q : Int) = (n : Int) := by omega
  rw [hnq] at HST
  have hn5 : 2 ≤ n ∧ n ≤ 5 := by omega
  simp only [hni]
  clear hnq hni hq
  go_loopw [9, 11, 12] (fun v l i wr => ∃ (k done m : Nat) (pl : Option Addr) (cl : Nat), k ≤ sc.length ∧ k ≤ 20 ∧ done ≤ k + 1 ∧ m ≤ 325 * k ∧ i = .int .i64 (k : Int) ∧ v = .int .i64 (done : Int) ∧ l = .slice pl m cl ∧ Hid (LatS W n gb pb pc rbs k done (.slice pl m cl) m wr)) (fun _ _ i _ => 20 - (intOf i).toNat)
  case atStart => exact ⟨0, 1, 0, none, 0, by omega, by omega, by omega, by omega, rfl, rfl, rfl, HST⟩
  case round =>
    clear HST
    obtain ⟨k, done, m, pl, cl, hk, hk20, hdk, hmk, rfl, rfl, rfl, HI⟩ := hrel
    obtain ⟨e0, e1⟩ := HI.out.cells
    by_cases hlt : k < sc.length ∧ k < 20
    · obtain ⟨hlt, hlt2⟩ := hlt
      have hki : (k : Int) < (sc.length : Int) := by omega
      have hki2 : (k : Int) < 20 := by omega
      have hact := (HA.out.below HI.out.old) k sc[k] (List.getElem?_eq_getElem hlt)
      have HAK : Hid (∀ w', Below W.heap.size W w' → ∃ b off, p = some ⟨b, off, none⟩ ∧ w'.cell? ⟨b, off + k * 4, none⟩ = some (.int .i64 sc[k].at_) ∧ w'.cell? ⟨b, off + k * 4 + 1, none⟩ = some (.int .i64 sc[k].what) ∧ w'.cell? ⟨b, off + k * 4 + 2, none⟩ = some (.int .i64 sc[k].word) ∧ w'.cell? ⟨b, off + k * 4 + 3, none⟩ = some (.int .i64 sc[k].count)) := fun w' hb => (HA.out.below hb) k sc[k] (List.getElem?_eq_getElem hlt)
      obtain ⟨b, off, hp, a0, a1, a2, a3⟩ := hact
      have hao := HOK.out sc[k] (List.getElem_mem hlt)
      obtain ⟨ho0, ho1, ho2, ho3⟩ := hao
      unfold I64 at ho0 ho1 ho2 ho3
      subst hp
      clear hl
      have hln : 0 < sc.length := by omega
      generalize sc[k] = o at *
      obtain ⟨oA, oW, oD, oC⟩ := o
      simp only at a0 a1 a2 a3 ho0 ho1 ho2 ho3 HAK
      have hat : pickN oA n < n := by have : (pickN oA n : Int) < n := pickN_lt (by omega); omega
      have HPA : Hid (∀ w, Calls Tryz.prog 18 #[.int .i64 oA, .int .i64 (n : Int)] w fun e w' => e = .returned (.int .i64 (pickN oA n : Int)) ∧ w' = w) := fun w => HP.out oA n w ho0 (by omega)
      obtain ⟨sm, hsm⟩ : ∃ sm, IntKind.i64.wrap (oD + lo) = sm := ⟨_, rfl⟩
      have hsb : -9223372036854775808 ≤ sm ∧ sm ≤ 9223372036854775807 := by rw [← hsm]; exact wrap_bounds _
      have htt : pickN sm n < n := by have : (pickN sm n : Int) < n := pickN_lt (by omega); omega
      have HPT : Hid (∀ w, Calls Tryz.prog 18 #[.int .i64 sm, .int .i64 (n : Int)] w fun e w' => e = .returned (.int .i64 (pickN sm n : Int)) ∧ w' = w) := fun w => HP.out sm n w hsb (by omega)
      have E1 := e1 _ hat
      generalize pickN oA n = at_ at *
      generalize pickN sm n = tt at *
      have hatI : (at_ : Int) < (n : Int) := by omega
      have httI : (tt : Int) < (n : Int) := by omega
      have hk7 : pickN oW 7 < 7 := by have : (pickN oW 7 : Int) < 7 := pickN_lt (by omega); omega
      have hw3 : pickN oD 3 < 3 := by have : (pickN oD 3 : Int) < 3 := pickN_lt (by omega); omega
      have hc9 : pickN oC 9 < 9 := by have : (pickN oC 9 : Int) < 9 := pickN_lt (by omega); omega
      obtain ⟨hr, hsz⟩ := act_read hk7 hw3 hc9
      have HTX : Hid (∀ w, Calls Tryz.prog 24 #[.agg #[.int .i64 oA, .int .i64 oW, .int .i64 oD, .int .i64 oC]] w fun e w' => e = .returned (.string (actB (pickN oW 7) (pickN oD 3) (pickN oC 9))) ∧ Below w.heap.size w w') := fun w => actTextG w oA oW oD oC ho1 ho2 ho3
      generalize actB (pickN oW 7) (pickN oD 3) (pickN oC 9) = s at *
      generalize actC (pickN oW 7) (pickN oD 3) (pickN oC 9) = c at *
      obtain ⟨ra, hra⟩ : ∃ ra, rbs at_ = ra := ⟨_, rfl⟩
      obtain ⟨rt, hrt⟩ : ∃ rt, rbs tt = rt := ⟨_, rfl⟩
      rw [hra] at E1
      have HACT : Hid (∀ w', Below W.heap.size W w' → w'.cell? ⟨b, off + k * 4, none⟩ = some (.int .i64 oA) ∧ w'.cell? ⟨b, off + k * 4 + 1, none⟩ = some (.int .i64 oW) ∧ w'.cell? ⟨b, off + k * 4 + 2, none⟩ = some (.int .i64 oD) ∧ w'.cell? ⟨b, off + k * 4 + 3, none⟩ = some (.int .i64 oC)) := fun w' hb => by
        obtain ⟨b', off', hp', d0, d1, d2, d3⟩ := HAK.out w' hb
        obtain ⟨rfl, rfl⟩ : b = b' ∧ off = off' := by simpa using hp'
        exact ⟨d0, d1, d2, d3⟩
      have HT1 : Hid (∀ w, LatS W n gb pb pc rbs k done (.slice pl m cl) m w → Calls Tryz.prog 24 #[.agg #[.int .i64 oA, .int .i64 oW, .int .i64 oD, .int .i64 oC]] w fun e w' => e = .returned (.string s) ∧ (fun w' : World => w'.cell? ⟨gb, 0, none⟩ = some (.slice (some ⟨pb, 0, none⟩) n pc) ∧ w'.cell? ⟨pb, at_, none⟩ = some (.pointer (some ⟨ra, 0, none⟩)) ∧ w'.cell? ⟨b, off + k * 4, none⟩ = some (.int .i64 oA) ∧ w'.cell? ⟨b, off + k * 4 + 1, none⟩ = some (.int .i64 oW) ∧ w'.cell? ⟨b, off + k * 4 + 2, none⟩ = some (.int .i64 oD) ∧ w'.cell? ⟨b, off + k * 4 + 3, none⟩ = some (.int .i64 oC)) w' ∧ Hid (LatS W n gb pb pc rbs k done (.slice pl m cl) m w')) := fun w h => by
        refine (HTX.out w).mono ?_
        rintro e w' ⟨he, hb⟩
        have h' := h.below hb
        obtain ⟨u0, u1⟩ := h'.cells
        exact ⟨he, ⟨u0, by rw [← hra]; exact u1 at_ hat, HACT.out w' h'.old⟩, h'⟩
      have HD1 : Hid (∀ w, LatS W n gb pb pc rbs k done (.slice pl m cl) m w → Calls Tryz.prog 20 #[.pointer (some ⟨ra, 0, none⟩), .string s] w fun e w' => ∃ z, e = .returned (.int .i64 z) ∧ (z = 0 ∨ z = 3 ∨ z = 4) ∧ (fun w' : World => w'.cell? ⟨gb, 0, none⟩ = some (.slice (some ⟨pb, 0, none⟩) n pc) ∧ w'.cell? ⟨pb, at_, none⟩ = some (.pointer (some ⟨ra, 0, none⟩)) ∧ w'.cell? ⟨b, off + k * 4, none⟩ = some (.int .i64 oA) ∧ w'.cell? ⟨b, off + k * 4 + 1, none⟩ = some (.int .i64 oW) ∧ w'.cell? ⟨b, off + k * 4 + 2, none⟩ = some (.int .i64 oD) ∧ w'.cell? ⟨b, off + k * 4 + 3, none⟩ = some (.int .i64 oC)) w' ∧ (fun w' : World => w'.cell? ⟨gb, 0, none⟩ = some (.slice (some ⟨pb, 0, none⟩) n pc) ∧ w'.cell? ⟨pb, tt, none⟩ = some (.pointer (some ⟨rt, 0, none⟩)) ∧ w'.cell? ⟨b, off + k * 4, none⟩ = some (.int .i64 oA) ∧ w'.cell? ⟨b, off + k * 4 + 1, none⟩ = some (.int .i64 oW) ∧ w'.cell? ⟨b, off + k * 4 + 2, none⟩ = some (.int .i64 oD) ∧ w'.cell? ⟨b, off + k * 4 + 3, none⟩ = some (.int .i64 oC)) w' ∧ Hid (LatS W n gb pb pc rbs k (if z = 0 then done + 1 else done) (.slice pl m cl) m w')) := fun w h => by
        have hd := late_do HG.out hat (by omega) s hsz hr h
        rw [hra] at hd
        refine hd.mono ?_
        rintro e w' ⟨z, he, hz, h'⟩
        obtain ⟨u0, u1⟩ := h'.cells
        exact ⟨z, he, hz, ⟨u0, by rw [← hra]; exact u1 at_ hat, HACT.out w' h'.old⟩, ⟨u0, by rw [← hrt]; exact u1 tt htt, HACT.out w' h'.old⟩, h'⟩
      have HTK : Hid (∀ dn w, LatS W n gb pb pc rbs k dn (.slice pl m cl) m w → Calls Tryz.prog 25 #[.pointer (some ⟨rt, 0, none⟩)] w fun e w' => e = .returned (.tuple #[]) ∧ (fun w' : World => w'.cell? ⟨gb, 0, none⟩ = some (.slice (some ⟨pb, 0, none⟩) n pc) ∧ w'.cell? ⟨pb, tt, none⟩ = some (.pointer (some ⟨rt, 0, none⟩)) ∧ w'.cell? ⟨b, off + k * 4, none⟩ = some (.int .i64 oA) ∧ w'.cell? ⟨b, off + k * 4 + 1, none⟩ = some (.int .i64 oW) ∧ w'.cell? ⟨b, off + k * 4 + 2, none⟩ = some (.int .i64 oD) ∧ w'.cell? ⟨b, off + k * 4 + 3, none⟩ = some (.int .i64 oC)) w' ∧ Hid (LatS W n gb pb pc rbs (k + 1) dn (.slice pl m cl) m w')) := fun dn w h => by
        have hd := late_tick htt (by omega) h
        rw [hrt] at hd
        refine hd.mono ?_
        rintro e w' ⟨he, h'⟩
        obtain ⟨u0, u1⟩ := h'.cells
        exact ⟨he, ⟨u0, by rw [← hrt]; exact u1 tt htt, HACT.out w' h'.old⟩, h'⟩
      have HFR : Hid (∀ dn w, LatS W n gb pb pc rbs (k + 1) dn (.slice pl m cl) m w → Calls Tryz.prog 26 #[.pointer (some ⟨gb, 0, none⟩)] w fun e w' => ∃ p2 m2 c2 xs, e = .returned (.slice p2 m2 c2) ∧ m2 ≤ 325 ∧ Hid (w'.ownsRow W.heap.size 59 3 (.slice pl m cl) m xs ∧ (m2 = 0 → LatN W n gb pb pc rbs (k + 1) dn (m + m2) (.slice pl m cl) w') ∧ (0 < m2 → ∃ ad news, p2 = some ad ∧ news.length = m2 * 3 ∧ (∀ j u, news[j]? = some u → w'.cell? (ad.add j) = some u) ∧ (∀ u ∈ news, u.oneCell' = true) ∧ ∀ g cap w5, w5.ownsRow W.heap.size 59 3 (.slice (some ⟨g, 0, none⟩) (m + m2) cap) (m + m2) (xs ++ news) → w'.grownBy w5 (Value.slice pl m cl).ownBlock → ((Value.slice pl m cl).ownBlock = some g ∨ g = w'.heap.size) → LatN W n gb pb pc rbs (k + 1) dn (m + m2) (.slice (some ⟨g, 0, none⟩) (m + m2) cap) w5) ∧ W.heap.size ≤ w'.heap.size)) := fun dn w h => by
        refine (late_frames HG.out h).mono ?_
        rintro e w' ⟨p2, m2, c2, he, hm2, hF⟩
        obtain ⟨xs, q⟩ := late_append hF
        exact ⟨p2, m2, c2, xs, he, hm2, q⟩
      have HId : Hid (LatS W n gb pb pc rbs k done (.slice pl m cl) m wr.drew) := HI.out.below (Below.refl _ wr).drew
      clear HTX HP HI HA HOK
      go_upto_region 11 with fail
      have hS : (fun w' : World => w'.cell? ⟨gb, 0, none⟩ = some (.slice (some ⟨pb, 0, none⟩) n pc) ∧ w'.cell? ⟨pb, at_, none⟩ = some (.pointer (some ⟨ra, 0, none⟩)) ∧ w'.cell? ⟨b, off + k * 4, none⟩ = some (.int .i64 oA) ∧ w'.cell? ⟨b, off + k * 4 + 1, none⟩ = some (.int .i64 oW) ∧ w'.cell? ⟨b, off + k * 4 + 2, none⟩ = some (.int .i64 oD) ∧ w'.cell? ⟨b, off + k * 4 + 3, none⟩ = some (.int .i64 oC)) wr.drew := ⟨e0, E1, a0, a1, a2, a3⟩
      refine wp_region_held (S := (fun w' : World => w'.cell? ⟨gb, 0, none⟩ = some (.slice (some ⟨pb, 0, none⟩) n pc) ∧ w'.cell? ⟨pb, at_, none⟩ = some (.pointer (some ⟨ra, 0, none⟩)) ∧ w'.cell? ⟨b, off + k * 4, none⟩ = some (.int .i64 oA) ∧ w'.cell? ⟨b, off + k * 4 + 1, none⟩ = some (.int .i64 oW) ∧ w'.cell? ⟨b, off + k * 4 + 2, none⟩ = some (.int .i64 oD) ∧ w'.cell? ⟨b, off + k * 4 + 3, none⟩ = some (.int .i64 oC))) hmx ?_
      refine wpAnyH_take (i := 0) (v := (.pointer (some ⟨gb, 0, none⟩))) rfl (by kernel_rfl) (by kernel_rfl) (by kernel_rfl) (fun _ _ _ h => h) (Or.inl ⟨by rfl, ?_⟩) hS ?_
      · intro W hSw
        obtain ⟨s0, s1, s2, s3, s4, s5⟩ := hSw
        go_simp
      dsimp only [List.getElem_toArray, List.getElem_cons_zero, List.getElem_cons_succ]
      simp only [Act.put, List.setIfInBounds_toArray, List.set_cons_zero, List.set_cons_succ]
      refine wpAnyH_take (i := 1) (v := (.pointer (some ⟨gb, 0, none⟩))) rfl (by kernel_rfl) (by kernel_rfl) (by kernel_rfl) (fun _ _ _ h => h) (Or.inl ⟨by rfl, ?_⟩) hS ?_
      · intro W hSw
        obtain ⟨s0, s1, s2, s3, s4, s5⟩ := hSw
        go_simp
      dsimp only [List.getElem_toArray, List.getElem_cons_zero, List.getElem_cons_succ]
      simp only [Act.put, List.setIfInBounds_toArray, List.set_cons_zero, List.set_cons_succ]
      refine wpAnyH_take (i := 2) (v := (.pointer (some ⟨gb, 0, none⟩))) rfl (by kernel_rfl) (by kernel_rfl) (by kernel_rfl) (fun _ _ _ h => h) (Or.inl ⟨by rfl, ?_⟩) hS ?_
      · intro W hSw
        obtain ⟨s0, s1, s2, s3, s4, s5⟩ := hSw
        go_simp
      dsimp only [List.getElem_toArray, List.getElem_cons_zero, List.getElem_cons_succ]
      simp only [Act.put, List.setIfInBounds_toArray, List.set_cons_zero, List.set_cons_succ]
      refine wpAnyH_take (i := 3) (v := (.slice (some ⟨pb, 0, none⟩) n pc)) rfl (by kernel_rfl) (by kernel_rfl) (by kernel_rfl) (fun _ _ _ h => h) (Or.inl ⟨by rfl, ?_⟩) hS ?_
      · intro W hSw
        obtain ⟨s0, s1, s2, s3, s4, s5⟩ := hSw
        go_simp
      dsimp only [List.getElem_toArray, List.getElem_cons_zero, List.getElem_cons_succ]
      simp only [Act.put, List.setIfInBounds_toArray, List.set_cons_zero, List.set_cons_succ]
      refine wpAnyH_take (i := 4) (v := (.slice (some ⟨b, off, none⟩) sc.length cap)) rfl (by kernel_rfl) (by kernel_rfl) (by kernel_rfl) (fun _ _ _ h => h) (Or.inl ⟨by rfl, ?_⟩) hS ?_
      · intro W hSw
        obtain ⟨s0, s1, s2, s3, s4, s5⟩ := hSw
        go_simp
      dsimp only [List.getElem_toArray, List.getElem_cons_zero, List.getElem_cons_succ]
      simp only [Act.put, List.setIfInBounds_toArray, List.set_cons_zero, List.set_cons_succ]
      refine wpAnyH_take (i := 5) (v := (.int .i64 (k : Int))) rfl (by kernel_rfl) (by kernel_rfl) (by kernel_rfl) (fun _ _ _ h => h) (Or.inl ⟨by rfl, ?_⟩) hS ?_
      · intro W hSw
        obtain ⟨s0, s1, s2, s3, s4, s5⟩ := hSw
        go_simp
      dsimp only [List.getElem_toArray, List.getElem_cons_zero, List.getElem_cons_succ]
      simp only [Act.put, List.setIfInBounds_toArray, List.set_cons_zero, List.set_cons_succ]
      refine wpAnyH_take (i := 6) (v := (.pointer (some ⟨b, off + k * 4, none⟩))) rfl (by kernel_rfl) (by kernel_rfl) (by kernel_rfl) (fun _ _ _ h => h) (Or.inl ⟨by rfl, ?_⟩) hS ?_
      · intro W hSw
        obtain ⟨s0, s1, s2, s3, s4, s5⟩ := hSw
        go_simp
        all_goals (try (intro hz; omega))
      dsimp only [List.getElem_toArray, List.getElem_cons_zero, List.getElem_cons_succ]
      simp only [Act.put, List.setIfInBounds_toArray, List.set_cons_zero, List.set_cons_succ]
      refine wpAnyH_take (i := 7) (v := (.pointer (some ⟨b, off + k * 4, none⟩))) rfl (by kernel_rfl) (by kernel_rfl) (by kernel_rfl) (fun _ _ _ h => h) (Or.inl ⟨by rfl, ?_⟩) hS ?_
      · intro W hSw
        obtain ⟨s0, s1, s2, s3, s4, s5⟩ := hSw
        go_simp
      dsimp only [List.getElem_toArray, List.getElem_cons_zero, List.getElem_cons_succ]
      simp only [Act.put, List.setIfInBounds_toArray, List.set_cons_zero, List.set_cons_succ]
      refine wpAnyH_take (i := 8) (v := (.int .i64 oA)) rfl (by kernel_rfl) (by kernel_rfl) (by kernel_rfl) (fun _ _ _ h => h) (Or.inl ⟨by rfl, ?_⟩) hS ?_
      · intro W hSw
        obtain ⟨s0, s1, s2, s3, s4, s5⟩ := hSw
        go_simp
      dsimp only [List.getElem_toArray, List.getElem_cons_zero, List.getElem_cons_succ]
      simp only [Act.put, List.setIfInBounds_toArray, List.set_cons_zero, List.set_cons_succ]
      refine wpAnyH_take (i := 9) (v := (.int .i64 (n : Int))) rfl (by kernel_rfl) (by kernel_rfl) (by kernel_rfl) (fun _ _ _ h => h) (Or.inl ⟨by rfl, ?_⟩) hS ?_
      · intro W hSw
        obtain ⟨s0, s1, s2, s3, s4, s5⟩ := hSw
        go_simp
      dsimp only [List.getElem_toArray, List.getElem_cons_zero, List.getElem_cons_succ]
      simp only [Act.put, List.setIfInBounds_toArray, List.set_cons_zero, List.set_cons_succ]
      refine wpAnyH_take (i := 13) (v := (.slice (some ⟨b, off, none⟩) sc.length cap)) rfl (by kernel_rfl) (by kernel_rfl) (by kernel_rfl) (fun _ _ _ h => h) (Or.inl ⟨by rfl, ?_⟩) hS ?_
      · intro W hSw
        obtain ⟨s0, s1, s2, s3, s4, s5⟩ := hSw
        go_simp
      dsimp only [List.getElem_toArray, List.getElem_cons_zero, List.getElem_cons_succ]
      simp only [Act.put, List.setIfInBounds_toArray, List.set_cons_zero, List.set_cons_succ]
      refine wpAnyH_take (i := 14) (v := (.int .i64 (k : Int))) rfl (by kernel_rfl) (by kernel_rfl) (by kernel_rfl) (fun _ _ _ h => h) (Or.inl ⟨by rfl, ?_⟩) hS ?_
      · intro W hSw
        obtain ⟨s0, s1, s2, s3, s4, s5⟩ := hSw
        go_simp
      dsimp only [List.getElem_toArray, List.getElem_cons_zero, List.getElem_cons_succ]
      simp only [Act.put, List.setIfInBounds_toArray, List.set_cons_zero, List.set_cons_succ]
      refine wpAnyH_take (i := 15) (v := (.pointer (some ⟨b, off + k * 4, none⟩))) rfl (by kernel_rfl) (by kernel_rfl) (by kernel_rfl) (fun _ _ _ h => h) (Or.inl ⟨by rfl, ?_⟩) hS ?_
      · intro W hSw
        obtain ⟨s0, s1, s2, s3, s4, s5⟩ := hSw
        go_simp
        all_goals (try (intro hz; omega))
      dsimp only [List.getElem_toArray, List.getElem_cons_zero, List.getElem_cons_succ]
      simp only [Act.put, List.setIfInBounds_toArray, List.set_cons_zero, List.set_cons_succ]
      refine wpAnyH_take (i := 16) (v := (.agg #[.int .i64 oA, .int .i64 oW, .int .i64 oD, .int .i64 oC])) rfl (by kernel_rfl) (by kernel_rfl) (by kernel_rfl) (fun _ _ _ h => h) (Or.inl ⟨by rfl, ?_⟩) hS ?_
      · intro W hSw
        obtain ⟨s0, s1, s2, s3, s4, s5⟩ := hSw
        go_simp
      dsimp only [List.getElem_toArray, List.getElem_cons_zero, List.getElem_cons_succ]
      simp only [Act.put, List.setIfInBounds_toArray, List.set_cons_zero, List.set_cons_succ]
      refine wpAnyH_ready (rs := [10]) (by kernel_rfl) (by simp) ?_
      refine AllReadyH.cons rfl (fun K hK => ?_) AllReadyH.nil
      rw [if_pos (by rfl)]
      dsimp only [List.getElem_toArray, List.getElem_cons_zero, List.getElem_cons_succ]
      go_simp
      refine (HPA.out _).mono ?_
      rintro e wq ⟨rfl, hwq⟩
      subst hwq
      refine hK.out _ _ hS (fun _ => ?_)
      clear hK K
      try simp only [Act.put, List.setIfInBounds_toArray, List.set_cons_zero, List.set_cons_succ]
      refine wpAnyH_take (i := 11) (v := (.pointer (some ⟨pb, at_, none⟩))) rfl (by kernel_rfl) (by kernel_rfl) (by kernel_rfl) (fun _ _ _ h => h) (Or.inl ⟨by rfl, ?_⟩) hS ?_
      · intro W hSw
        obtain ⟨s0, s1, s2, s3, s4, s5⟩ := hSw
        go_simp
        all_goals (try (intro hz; omega))
      dsimp only [List.getElem_toArray, List.getElem_cons_zero, List.getElem_cons_succ]
      simp only [Act.put, List.setIfInBounds_toArray, List.set_cons_zero, List.set_cons_succ]
      refine wpAnyH_take (i := 12) (v := (.pointer (some ⟨ra, 0, none⟩))) rfl (by kernel_rfl) (by kernel_rfl) (by kernel_rfl) (fun _ _ _ h => h) (Or.inl ⟨by rfl, ?_⟩) hS ?_
      · intro W hSw
        obtain ⟨s0, s1, s2, s3, s4, s5⟩ := hSw
        go_simp
      dsimp only [List.getElem_toArray, List.getElem_cons_zero, List.getElem_cons_succ]
      simp only [Act.put, List.setIfInBounds_toArray, List.set_cons_zero, List.set_cons_succ]
      refine wpAnyH_ready (rs := [17]) (by kernel_rfl) (by simp) ?_
      refine AllReadyH.cons rfl (fun K hK => ?_) AllReadyH.nil
      rw [if_pos (by rfl)]
      dsimp only [List.getElem_toArray, List.getElem_cons_zero, List.getElem_cons_succ]
      go_simp
      refine (HT1.out _ HId.out).mono ?_
      rintro e w3 ⟨rfl, hS3, H3⟩
      refine hK.out _ _ hS3 (fun _ => ?_)
      clear hK K
      try simp only [Act.put, List.setIfInBounds_toArray, List.set_cons_zero, List.set_cons_succ]
      refine wpAnyH_ready (rs := [18]) (by kernel_rfl) (by simp) ?_
      refine AllReadyH.cons rfl (fun K hK => ?_) AllReadyH.nil
      rw [if_pos (by rfl)]
      dsimp only [List.getElem_toArray, List.getElem_cons_zero, List.getElem_cons_succ]
      go_simp
      refine (HD1.out _ H3.out).mono ?_
      rintro e w4 ⟨z, rfl, hz, hS4, hT4, H4⟩
      refine hK.out _ _ hS4 (fun _ => ?_)
      clear hK K
      try simp only [Act.put, List.setIfInBounds_toArray, List.set_cons_zero, List.set_cons_succ]
      refine wpAnyH_ready (rs := [19]) (by kernel_rfl) (by simp) ?_
      refine AllReadyH.cons rfl (fun K hK => ?_) AllReadyH.nil
      rw [if_pos (by rfl)]
      dsimp only [List.getElem_toArray, List.getElem_cons_zero, List.getElem_cons_succ]
      go_simp
      refine hK.out _ _ hS4 (fun _ => ?_)
      clear hK K
      try simp only [Act.put, List.setIfInBounds_toArray, List.set_cons_zero, List.set_cons_succ]
      refine wpAnyH_done (by kernel_rfl) ?_ _
      clear hS HT1 HD1 HPA HId
      go_upto_region 12 with fail
      by_cases hz0 : z = 0
      · subst hz0
        rw [if_pos rfl] at H4
        have H4d : Hid (LatS W n gb pb pc rbs k (done + 1) (.slice pl m cl) m w4.drew) := H4.out.below (Below.refl _ w4).drew
        go_upto_region 14 with fail
        have hS : (fun w' : World => w'.cell? ⟨gb, 0, none⟩ = some (.slice (some ⟨pb, 0, none⟩) n pc) ∧ w'.cell? ⟨pb, tt, none⟩ = some (.pointer (some ⟨rt, 0, none⟩)) ∧ w'.cell? ⟨b, off + k * 4, none⟩ = some (.int .i64 oA) ∧ w'.cell? ⟨b, off + k * 4 + 1, none⟩ = some (.int .i64 oW) ∧ w'.cell? ⟨b, off + k * 4 + 2, none⟩ = some (.int .i64 oD) ∧ w'.cell? ⟨b, off + k * 4 + 3, none⟩ = some (.int .i64 oC)) w4.drew := hT4
        refine wp_region_held (S := (fun w' : World => w'.cell? ⟨gb, 0, none⟩ = some (.slice (some ⟨pb, 0, none⟩) n pc) ∧ w'.cell? ⟨pb, tt, none⟩ = some (.pointer (some ⟨rt, 0, none⟩)) ∧ w'.cell? ⟨b, off + k * 4, none⟩ = some (.int .i64 oA) ∧ w'.cell? ⟨b, off + k * 4 + 1, none⟩ = some (.int .i64 oW) ∧ w'.cell? ⟨b, off + k * 4 + 2, none⟩ = some (.int .i64 oD) ∧ w'.cell? ⟨b, off + k * 4 + 3, none⟩ = some (.int .i64 oC))) hmx ?_
        refine wpAnyH_take (i := 0) (v := (.pointer (some ⟨gb, 0, none⟩))) rfl (by kernel_rfl) (by kernel_rfl) (by kernel_rfl) (fun _ _ _ h => h) (Or.inl ⟨by rfl, ?_⟩) hS ?_
        · intro W hSw
          obtain ⟨s0, s1, s2, s3, s4, s5⟩ := hSw
          go_simp
        dsimp only [List.getElem_toArray, List.getElem_cons_zero, List.getElem_cons_succ]
        simp only [Act.put, List.setIfInBounds_toArray, List.set_cons_zero, List.set_cons_succ]
        refine wpAnyH_take (i := 1) (v := (.pointer (some ⟨gb, 0, none⟩))) rfl (by kernel_rfl) (by kernel_rfl) (by kernel_rfl) (fun _ _ _ h => h) (Or.inl ⟨by rfl, ?_⟩) hS ?_
        · intro W hSw
          obtain ⟨s0, s1, s2, s3, s4, s5⟩ := hSw
          go_simp
        dsimp only [List.getElem_toArray, List.getElem_cons_zero, List.getElem_cons_succ]
        simp only [Act.put, List.setIfInBounds_toArray, List.set_cons_zero, List.set_cons_succ]
        refine wpAnyH_take (i := 2) (v := (.pointer (some ⟨gb, 0, none⟩))) rfl (by kernel_rfl) (by kernel_rfl) (by kernel_rfl) (fun _ _ _ h => h) (Or.inl ⟨by rfl, ?_⟩) hS ?_
        · intro W hSw
          obtain ⟨s0, s1, s2, s3, s4, s5⟩ := hSw
          go_simp
        dsimp only [List.getElem_toArray, List.getElem_cons_zero, List.getElem_cons_succ]
        simp only [Act.put, List.setIfInBounds_toArray, List.set_cons_zero, List.set_cons_succ]
        refine wpAnyH_take (i := 3) (v := (.slice (some ⟨pb, 0, none⟩) n pc)) rfl (by kernel_rfl) (by kernel_rfl) (by kernel_rfl) (fun _ _ _ h => h) (Or.inl ⟨by rfl, ?_⟩) hS ?_
        · intro W hSw
          obtain ⟨s0, s1, s2, s3, s4, s5⟩ := hSw
          go_simp
        dsimp only [List.getElem_toArray, List.getElem_cons_zero, List.getElem_cons_succ]
        simp only [Act.put, List.setIfInBounds_toArray, List.set_cons_zero, List.set_cons_succ]
        refine wpAnyH_take (i := 4) (v := (.slice (some ⟨b, off, none⟩) sc.length cap)) rfl (by kernel_rfl) (by kernel_rfl) (by kernel_rfl) (fun _ _ _ h => h) (Or.inl ⟨by rfl, ?_⟩) hS ?_
        · intro W hSw
          obtain ⟨s0, s1, s2, s3, s4, s5⟩ := hSw
          go_simp
        dsimp only [List.getElem_toArray, List.getElem_cons_zero, List.getElem_cons_succ]
        simp only [Act.put, List.setIfInBounds_toArray, List.set_cons_zero, List.set_cons_succ]
        refine wpAnyH_take (i := 5) (v := (.int .i64 (k : Int))) rfl (by kernel_rfl) (by kernel_rfl) (by kernel_rfl) (fun _ _ _ h => h) (Or.inl ⟨by rfl, ?_⟩) hS ?_
        · intro W hSw
          obtain ⟨s0, s1, s2, s3, s4, s5⟩ := hSw
          go_simp
        dsimp only [List.getElem_toArray, List.getElem_cons_zero, List.getElem_cons_succ]
        simp only [Act.put, List.setIfInBounds_toArray, List.set_cons_zero, List.set_cons_succ]
        refine wpAnyH_take (i := 6) (v := (.pointer (some ⟨b, off + k * 4, none⟩))) rfl (by kernel_rfl) (by kernel_rfl) (by kernel_rfl) (fun _ _ _ h => h) (Or.inl ⟨by rfl, ?_⟩) hS ?_
        · intro W hSw
          obtain ⟨s0, s1, s2, s3, s4, s5⟩ := hSw
          go_simp
          all_goals (try (intro hz; omega))
        dsimp only [List.getElem_toArray, List.getElem_cons_zero, List.getElem_cons_succ]
        simp only [Act.put, List.setIfInBounds_toArray, List.set_cons_zero, List.set_cons_succ]
        refine wpAnyH_take (i := 7) (v := (.pointer (some ⟨b, off + k * 4 + 2, none⟩))) rfl (by kernel_rfl) (by kernel_rfl) (by kernel_rfl) (fun _ _ _ h => h) (Or.inl ⟨by rfl, ?_⟩) hS ?_
        · intro W hSw
          obtain ⟨s0, s1, s2, s3, s4, s5⟩ := hSw
          go_simp
        dsimp only [List.getElem_toArray, List.getElem_cons_zero, List.getElem_cons_succ]
        simp only [Act.put, List.setIfInBounds_toArray, List.set_cons_zero, List.set_cons_succ]
        refine wpAnyH_take (i := 8) (v := (.int .i64 oD)) rfl (by kernel_rfl) (by kernel_rfl) (by kernel_rfl) (fun _ _ _ h => h) (Or.inl ⟨by rfl, ?_⟩) hS ?_
        · intro W hSw
          obtain ⟨s0, s1, s2, s3, s4, s5⟩ := hSw
          go_simp
        dsimp only [List.getElem_toArray, List.getElem_cons_zero, List.getElem_cons_succ]
        simp only [Act.put, List.setIfInBounds_toArray, List.set_cons_zero, List.set_cons_succ]
        refine wpAnyH_take (i := 9) (v := (.int .i64 lo)) rfl (by kernel_rfl) (by kernel_rfl) (by kernel_rfl) (fun _ _ _ h => h) (Or.inl ⟨by rfl, ?_⟩) hS ?_
        · intro W hSw
          obtain ⟨s0, s1, s2, s3, s4, s5⟩ := hSw
          go_simp
        dsimp only [List.getElem_toArray, List.getElem_cons_zero, List.getElem_cons_succ]
        simp only [Act.put, List.setIfInBounds_toArray, List.set_cons_zero, List.set_cons_succ]
        refine wpAnyH_take (i := 10) (v := (.int .i64 sm)) rfl (by kernel_rfl) (by kernel_rfl) (by kernel_rfl) (fun _ _ _ h => h) (Or.inl ⟨by rfl, ?_⟩) hS ?_
        · intro W hSw
          obtain ⟨s0, s1, s2, s3, s4, s5⟩ := hSw
          rw [← hsm]
          go_simp
        dsimp only [List.getElem_toArray, List.getElem_cons_zero, List.getElem_cons_succ]
        simp only [Act.put, List.setIfInBounds_toArray, List.set_cons_zero, List.set_cons_succ]
        refine wpAnyH_take (i := 11) (v := (.int .i64 (n : Int))) rfl (by kernel_rfl) (by kernel_rfl) (by kernel_rfl) (fun _ _ _ h => h) (Or.inl ⟨by rfl, ?_⟩) hS ?_
        · intro W hSw
          obtain ⟨s0, s1, s2, s3, s4, s5⟩ := hSw
          go_simp
        dsimp only [List.getElem_toArray, List.getElem_cons_zero, List.getElem_cons_succ]
        simp only [Act.put, List.setIfInBounds_toArray, List.set_cons_zero, List.set_cons_succ]
        refine wpAnyH_ready (rs := [12]) (by kernel_rfl) (by simp) ?_
        refine AllReadyH.cons rfl (fun K hK => ?_) AllReadyH.nil
        rw [if_pos (by rfl)]
        dsimp only [List.getElem_toArray, List.getElem_cons_zero, List.getElem_cons_succ]
        go_simp
        refine (HPT.out _).mono ?_
        rintro e wq ⟨rfl, hwq⟩
        subst hwq
        refine hK.out _ _ hS (fun _ => ?_)
        clear hK K
        try simp only [Act.put, List.setIfInBounds_toArray, List.set_cons_zero, List.set_cons_succ]
        refine wpAnyH_take (i := 13) (v := (.pointer (some ⟨pb, tt, none⟩))) rfl (by kernel_rfl) (by kernel_rfl) (by kernel_rfl) (fun _ _ _ h => h) (Or.inl ⟨by rfl, ?_⟩) hS ?_
        · intro W hSw
          obtain ⟨s0, s1, s2, s3, s4, s5⟩ := hSw
          go_simp
          all_goals (try (intro hz; omega))
        dsimp only [List.getElem_toArray, List.getElem_cons_zero, List.getElem_cons_succ]
        simp only [Act.put, List.setIfInBounds_toArray, List.set_cons_zero, List.set_cons_succ]
        refine wpAnyH_take (i := 14) (v := (.pointer (some ⟨rt, 0, none⟩))) rfl (by kernel_rfl) (by kernel_rfl) (by kernel_rfl) (fun _ _ _ h => h) (Or.inl ⟨by rfl, ?_⟩) hS ?_
        · intro W hSw
          obtain ⟨s0, s1, s2, s3, s4, s5⟩ := hSw
          go_simp
        dsimp only [List.getElem_toArray, List.getElem_cons_zero, List.getElem_cons_succ]
        simp only [Act.put, List.setIfInBounds_toArray, List.set_cons_zero, List.set_cons_succ]
        refine wpAnyH_ready (rs := [15]) (by kernel_rfl) (by simp) ?_
        refine AllReadyH.cons rfl (fun K hK => ?_) AllReadyH.nil
        rw [if_pos (by rfl)]
        dsimp only [List.getElem_toArray, List.getElem_cons_zero, List.getElem_cons_succ]
        go_simp
        refine (HTK.out _ _ H4d.out).mono ?_
        rintro e w5 ⟨rfl, hS5, H5⟩
        refine hK.out _ _ hS5 (fun _ => ?_)
        clear hK K
        try simp only [Act.put, List.setIfInBounds_toArray, List.set_cons_zero, List.set_cons_succ]
        refine wpAnyH_done (by kernel_rfl) ?_ _
        clear hS HTK HPT H4d
        go_wp2_with (first
          | (at_builtin; refine wpList_append_row rfl _ _ 52 rfl W.heap.size 59 iS (.agg #[.int .i64 0, .int .i64 0, .slice none 0 0]) 3 40 Tryz.underlying52 hi0 hi1 hi2 hi3 rfl (by decide) (.slice pl m cl) m xs (by rfl) H6.out.1 p2 m2 c2 (by rfl) (LatN W n gb pb pc rbs (k + 1) (done + 1) (m + m2)) H6.out.2.1 H6.out.2.2.1 (by unfold maxLen; omega) (by omega) H6.out.2.2.2 ?_; rintro v7 w7 ⟨p7, c7, rfl, H7⟩)
          | (go_at_call 26; refine (HFR.out _ _ H5.out).mono ?_; rintro e w6 ⟨p2, m2, c2, xs, rfl, hm2, H6⟩))
        go_roundw
        case rel => exact ⟨k + 1, done + 1, m + m2, p7, c7, by omega, by omega, by omega, by omega, by simp, by simp, rfl, H7⟩
        case measure => simp [intOf]; omega
      · rw [if_neg hz0] at H4
        have H4d : Hid (LatS W n gb pb pc rbs k (done) (.slice pl m cl) m w4.drew) := H4.out.below (Below.refl _ w4).drew
        go_upto_region 14 with fail
        have hS : (fun w' : World => w'.cell? ⟨gb, 0, none⟩ = some (.slice (some ⟨pb, 0, none⟩) n pc) ∧ w'.cell? ⟨pb, tt, none⟩ = some (.pointer (some ⟨rt, 0, none⟩)) ∧ w'.cell? ⟨b, off + k * 4, none⟩ = some (.int .i64 oA) ∧ w'.cell? ⟨b, off + k * 4 + 1, none⟩ = some (.int .i64 oW) ∧ w'.cell? ⟨b, off + k * 4 + 2, none⟩ = some (.int .i64 oD) ∧ w'.cell? ⟨b, off + k * 4 + 3, none⟩ = some (.int .i64 oC)) w4.drew := hT4
        refine wp_region_held (S := (fun w' : World => w'.cell? ⟨gb, 0, none⟩ = some (.slice (some ⟨pb, 0, none⟩) n pc) ∧ w'.cell? ⟨pb, tt, none⟩ = some (.pointer (some ⟨rt, 0, none⟩)) ∧ w'.cell? ⟨b, off + k * 4, none⟩ = some (.int .i64 oA) ∧ w'.cell? ⟨b, off + k * 4 + 1, none⟩ = some (.int .i64 oW) ∧ w'.cell? ⟨b, off + k * 4 + 2, none⟩ = some (.int .i64 oD) ∧ w'.cell? ⟨b, off + k * 4 + 3, none⟩ = some (.int .i64 oC))) hmx ?_
        refine wpAnyH_take (i := 0) (v := (.pointer (some ⟨gb, 0, none⟩))) rfl (by kernel_rfl) (by kernel_rfl) (by kernel_rfl) (fun _ _ _ h => h) (Or.inl ⟨by rfl, ?_⟩) hS ?_
        · intro W hSw
          obtain ⟨s0, s1, s2, s3, s4, s5⟩ := hSw
          go_simp
        dsimp only [List.getElem_toArray, List.getElem_cons_zero, List.getElem_cons_succ]
        simp only [Act.put, List.setIfInBounds_toArray, List.set_cons_zero, List.set_cons_succ]
        refine wpAnyH_take (i := 1) (v := (.pointer (some ⟨gb, 0, none⟩))) rfl (by kernel_rfl) (by kernel_rfl) (by kernel_rfl) (fun _ _ _ h => h) (Or.inl ⟨by rfl, ?_⟩) hS ?_
        · intro W hSw
          obtain ⟨s0, s1, s2, s3, s4, s5⟩ := hSw
          go_simp
        dsimp only [List.getElem_toArray, List.getElem_cons_zero, List.getElem_cons_succ]
        simp only [Act.put, List.setIfInBounds_toArray, List.set_cons_zero, List.set_cons_succ]
        refine wpAnyH_take (i := 2) (v := (.pointer (some ⟨gb, 0, none⟩))) rfl (by kernel_rfl) (by kernel_rfl) (by kernel_rfl) (fun _ _ _ h => h) (Or.inl ⟨by rfl, ?_⟩) hS ?_
        · intro W hSw
          obtain ⟨s0, s1, s2, s3, s4, s5⟩ := hSw
          go_simp
        dsimp only [List.getElem_toArray, List.getElem_cons_zero, List.getElem_cons_succ]
        simp only [Act.put, List.setIfInBounds_toArray, List.set_cons_zero, List.set_cons_succ]
        refine wpAnyH_take (i := 3) (v := (.slice (some ⟨pb, 0, none⟩) n pc)) rfl (by kernel_rfl) (by kernel_rfl) (by kernel_rfl) (fun _ _ _ h => h) (Or.inl ⟨by rfl, ?_⟩) hS ?_
        · intro W hSw
          obtain ⟨s0, s1, s2, s3, s4, s5⟩ := hSw
          go_simp
        dsimp only [List.getElem_toArray, List.getElem_cons_zero, List.getElem_cons_succ]
        simp only [Act.put, List.setIfInBounds_toArray, List.set_cons_zero, List.set_cons_succ]
        refine wpAnyH_take (i := 4) (v := (.slice (some ⟨b, off, none⟩) sc.length cap)) rfl (by kernel_rfl) (by kernel_rfl) (by kernel_rfl) (fun _ _ _ h => h) (Or.inl ⟨by rfl, ?_⟩) hS ?_
        · intro W hSw
          obtain ⟨s0, s1, s2, s3, s4, s5⟩ := hSw
          go_simp
        dsimp only [List.getElem_toArray, List.getElem_cons_zero, List.getElem_cons_succ]
        simp only [Act.put, List.setIfInBounds_toArray, List.set_cons_zero, List.set_cons_succ]
        refine wpAnyH_take (i := 5) (v := (.int .i64 (k : Int))) rfl (by kernel_rfl) (by kernel_rfl) (by kernel_rfl) (fun _ _ _ h => h) (Or.inl ⟨by rfl, ?_⟩) hS ?_
        · intro W hSw
          obtain ⟨s0, s1, s2, s3, s4, s5⟩ := hSw
          go_simp
        dsimp only [List.getElem_toArray, List.getElem_cons_zero, List.getElem_cons_succ]
        simp only [Act.put, List.setIfInBounds_toArray, List.set_cons_zero, List.set_cons_succ]
        refine wpAnyH_take (i := 6) (v := (.pointer (some ⟨b, off + k * 4, none⟩))) rfl (by kernel_rfl) (by kernel_rfl) (by kernel_rfl) (fun _ _ _ h => h) (Or.inl ⟨by rfl, ?_⟩) hS ?_
        · intro W hSw
          obtain ⟨s0, s1, s2, s3, s4, s5⟩ := hSw
          go_simp
          all_goals (try (intro hz; omega))
        dsimp only [List.getElem_toArray, List.getElem_cons_zero, List.getElem_cons_succ]
        simp only [Act.put, List.setIfInBounds_toArray, List.set_cons_zero, List.set_cons_succ]
        refine wpAnyH_take (i := 7) (v := (.pointer (some ⟨b, off + k * 4 + 2, none⟩))) rfl (by kernel_rfl) (by kernel_rfl) (by kernel_rfl) (fun _ _ _ h => h) (Or.inl ⟨by rfl, ?_⟩) hS ?_
        · intro W hSw
          obtain ⟨s0, s1, s2, s3, s4, s5⟩ := hSw
          go_simp
        dsimp only [List.getElem_toArray, List.getElem_cons_zero, List.getElem_cons_succ]
        simp only [Act.put, List.setIfInBounds_toArray, List.set_cons_zero, List.set_cons_succ]
        refine wpAnyH_take (i := 8) (v := (.int .i64 oD)) rfl (by kernel_rfl) (by kernel_rfl) (by kernel_rfl) (fun _ _ _ h => h) (Or.inl ⟨by rfl, ?_⟩) hS ?_
        · intro W hSw
          obtain ⟨s0, s1, s2, s3, s4, s5⟩ := hSw
          go_simp
        dsimp only [List.getElem_toArray, List.getElem_cons_zero, List.getElem_cons_succ]
        simp only [Act.put, List.setIfInBounds_toArray, List.set_cons_zero, List.set_cons_succ]
        refine wpAnyH_take (i := 9) (v := (.int .i64 lo)) rfl (by kernel_rfl) (by kernel_rfl) (by kernel_rfl) (fun _ _ _ h => h) (Or.inl ⟨by rfl, ?_⟩) hS ?_
        · intro W hSw
          obtain ⟨s0, s1, s2, s3, s4, s5⟩ := hSw
          go_simp
        dsimp only [List.getElem_toArray, List.getElem_cons_zero, List.getElem_cons_succ]
        simp only [Act.put, List.setIfInBounds_toArray, List.set_cons_zero, List.set_cons_succ]
        refine wpAnyH_take (i := 10) (v := (.int .i64 sm)) rfl (by kernel_rfl) (by kernel_rfl) (by kernel_rfl) (fun _ _ _ h => h) (Or.inl ⟨by rfl, ?_⟩) hS ?_
        · intro W hSw
          obtain ⟨s0, s1, s2, s3, s4, s5⟩ := hSw
          rw [← hsm]
          go_simp
        dsimp only [List.getElem_toArray, List.getElem_cons_zero, List.getElem_cons_succ]
        simp only [Act.put, List.setIfInBounds_toArray, List.set_cons_zero, List.set_cons_succ]
        refine wpAnyH_take (i := 11) (v := (.int .i64 (n : Int))) rfl (by kernel_rfl) (by kernel_rfl) (by kernel_rfl) (fun _ _ _ h => h) (Or.inl ⟨by rfl, ?_⟩) hS ?_
        · intro W hSw
          obtain ⟨s0, s1, s2, s3, s4, s5⟩ := hSw
          go_simp
        dsimp only [List.getElem_toArray, List.getElem_cons_zero, List.getElem_cons_succ]
        simp only [Act.put, List.setIfInBounds_toArray, List.set_cons_zero, List.set_cons_succ]
        refine wpAnyH_ready (rs := [12]) (by kernel_rfl) (by simp) ?_
        refine AllReadyH.cons rfl (fun K hK => ?_) AllReadyH.nil
        rw [if_pos (by rfl)]
        dsimp only [List.getElem_toArray, List.getElem_cons_zero, List.getElem_cons_succ]
        go_simp
        refine (HPT.out _).mono ?_
        rintro e wq ⟨rfl, hwq⟩
        subst hwq
        refine hK.out _ _ hS (fun _ => ?_)
        clear hK K
        try simp only [Act.put, List.setIfInBounds_toArray, List.set_cons_zero, List.set_cons_succ]
        refine wpAnyH_take (i := 13) (v := (.pointer (some ⟨pb, tt, none⟩))) rfl (by kernel_rfl) (by kernel_rfl) (by kernel_rfl) (fun _ _ _ h => h) (Or.inl ⟨by rfl, ?_⟩) hS ?_
        · intro W hSw
          obtain ⟨s0, s1, s2, s3, s4, s5⟩ := hSw
          go_simp
          all_goals (try (intro hz; omega))
        dsimp only [List.getElem_toArray, List.getElem_cons_zero, List.getElem_cons_succ]
        simp only [Act.put, List.setIfInBounds_toArray, List.set_cons_zero, List.set_cons_succ]
        refine wpAnyH_take (i := 14) (v := (.pointer (some ⟨rt, 0, none⟩))) rfl (by kernel_rfl) (by kernel_rfl) (by kernel_rfl) (fun _ _ _ h => h) (Or.inl ⟨by rfl, ?_⟩) hS ?_
        · intro W hSw
          obtain ⟨s0, s1, s2, s3, s4, s5⟩ := hSw
          go_simp
        dsimp only [List.getElem_toArray, List.getElem_cons_zero, List.getElem_cons_succ]
        simp only [Act.put, List.setIfInBounds_toArray, List.set_cons_zero, List.set_cons_succ]
        refine wpAnyH_ready (rs := [15]) (by kernel_rfl) (by simp) ?_
        refine AllReadyH.cons rfl (fun K hK => ?_) AllReadyH.nil
        rw [if_pos (by rfl)]
        dsimp only [List.getElem_toArray, List.getElem_cons_zero, List.getElem_cons_succ]
        go_simp
        refine (HTK.out _ _ H4d.out).mono ?_
        rintro e w5 ⟨rfl, hS5, H5⟩
        refine hK.out _ _ hS5 (fun _ => ?_)
        clear hK K
        try simp only [Act.put, List.setIfInBounds_toArray, List.set_cons_zero, List.set_cons_succ]
        refine wpAnyH_done (by kernel_rfl) ?_ _
        clear hS HTK HPT H4d
        go_wp2_with (first
          | (at_builtin; refine wpList_append_row rfl _ _ 52 rfl W.heap.size 59 iS (.agg #[.int .i64 0, .int .i64 0, .slice none 0 0]) 3 40 Tryz.underlying52 hi0 hi1 hi2 hi3 rfl (by decide) (.slice pl m cl) m xs (by rfl) H6.out.1 p2 m2 c2 (by rfl) (LatN W n gb pb pc rbs (k + 1) (done) (m + m2)) H6.out.2.1 H6.out.2.2.1 (by unfold maxLen; omega) (by omega) H6.out.2.2.2 ?_; rintro v7 w7 ⟨p7, c7, rfl, H7⟩)
          | (go_at_call 26; refine (HFR.out _ _ H5.out).mono ?_; rintro e w6 ⟨p2, m2, c2, xs, rfl, hm2, H6⟩))
        go_roundw
        case rel => exact ⟨k + 1, done, m + m2, p7, c7, by omega, by omega, by omega, by omega, by simp, by simp, rfl, H7⟩
        case measure => simp [intOf]; omega
    · have HE : Hid (LatS W n gb pb pc rbs k done (.slice pl m cl) m wr) := HI
      have E1 := e1 0 (by omega)
      obtain ⟨q1, hq1⟩ : ∃ q, rbs 0 = q := ⟨_, rfl⟩
      rw [hq1] at E1
      have hn0 : (0 : Int) < (n : Int) := by omega
      have HRO : Hid (Calls Tryz.prog 21 #[.pointer (some ⟨gb, 0, none⟩), .int .i64 62, .bool false, .bool false] wr fun e w' => e = .returned (.bool true) ∧ Hid (LatC W n gb pb pc rbs done (.slice pl m cl) m none w')) := late_rounds HG.out (by omega) HI.out
      have HAL : Hid (∀ (x : Int) t w, x = (done : Int) → LatC W n gb pb pc rbs done (.slice pl m cl) m t w → Calls Tryz.prog 22 #[.pointer (some ⟨gb, 0, none⟩), .int .i64 x] w fun e w' => e = .returned (.bool true) ∧ w'.cell? ⟨gb, 0, none⟩ = some (.slice (some ⟨pb, 0, none⟩) n pc) ∧ w'.cell? ⟨pb, 0, none⟩ = some (.pointer (some ⟨q1, 0, none⟩)) ∧ Hid (LatC W n gb pb pc rbs done (.slice pl m cl) m t w')) := fun x t w hx h => by
        rw [hx]
        refine (late_alike HG.out h).mono ?_
        rintro e w' ⟨he, h'⟩
        obtain ⟨u0, u1⟩ := h'.cells
        exact ⟨he, u0, by rw [← hq1]; exact u1 0 (by omega), h'⟩
      have HV1 : Hid (∀ w, LatC W n gb pb pc rbs done (.slice pl m cl) m none w → Calls Tryz.prog 23 #[.pointer (some ⟨q1, 0, none⟩)] w fun e w' => ∃ t, e = .returned (.string t) ∧ Hid (LatC W n gb pb pc rbs done (.slice pl m cl) m (some t) w')) := fun w h => by
        rw [← hq1]
        exact late_view1 HG.out h
      have HV2 : Hid (∀ t w, LatC W n gb pb pc rbs done (.slice pl m cl) m (some t) w → Calls Tryz.prog 23 #[.pointer (some ⟨q1, 0, none⟩)] w fun e w' => e = .returned (.string t) ∧ Hid (LatC W n gb pb pc rbs done (.slice pl m cl) m (some t) w')) := fun t w h => by
        rw [← hq1]
        exact late_view2 HG.out h
      have hm6 : m ≤ 6500 := by omega
      have hp3 : pickN lo 3 < 3 := by have : (pickN lo 3 : Int) < 3 := pickN_lt (by omega); omega
      have HP3 : Hid (∀ w, Calls Tryz.prog 18 #[.int .i64 lo, .int .i64 3] w fun e w' => e = .returned (.int .i64 (pickN lo 3 : Int)) ∧ w' = w) := fun w => HP.out lo 3 w hlo (by omega)
      generalize pickN lo 3 = p3 at *
      clear HI HP HA HOK HE hl e1
      by_cases h1 : k < sc.length
      · have hki : (k : Int) < (sc.length : Int) := by omega
        have hki2 : ¬ (k : Int) < 20 := by omega
        go_wp2_with (first
          | (go_at_call 23; refine (HV1.out _ HC1.out).mono ?_; rintro e w9 ⟨t, rfl, HC2⟩)
          | (go_at_call 22; refine (HAL.out _ _ _ (by omega) HC0.out).mono ?_; rintro e w8 ⟨rfl, g0, g1, HC1⟩)
          | (go_at_call 21; refine HRO.out.mono ?_; rintro e w7 ⟨rfl, HC0⟩))
        clear HRO HV1 HC0 HC1 g0 g1 e0 E1
        go_loopw [17] (fun i wr => ∃ (j : Nat), j ≤ m ∧ i = .int .i64 (j : Int) ∧ Hid (LatC W n gb pb pc rbs done (.slice pl m cl) m (some t) wr)) (fun i _ => m - (intOf i).toNat)
        case atStart => exact ⟨0, by omega, rfl, HC2⟩
        case round =>
          clear HC2
          obtain ⟨j, hj, rfl, HJ⟩ := hrel
          by_cases hjl : j < m
          · have hji : (j : Int) < (m : Int) := by omega
            have hjm : (j : Int).tmod 3 = ((j % 3 : Nat) : Int) := by rw [Int.tmod_eq_emod_of_nonneg (by omega)]; omega
            obtain ⟨j3, hj3⟩ : ∃ j3, j % 3 = j3 := ⟨_, rfl⟩
            rw [hj3] at hjm
            by_cases he3 : p3 = j3
            · have hne : ((p3 : Int) = (j3 : Int)) := by omega
              go_wp2_with (go_at_call 18; refine (HP3.out _).mono ?_; rintro e w' ⟨rfl, hw⟩; have hw' := hw.symm; clear hw; subst hw')
              go_roundw
              case rel => exact ⟨j + 1, by omega, by simp, HJ⟩
              case measure => simp [intOf]; omega
            · have hne : ¬ ((p3 : Int) = (j3 : Int)) := by omega
              obtain ⟨r, hr⟩ : ∃ r, m - 1 - j = r := ⟨_, rfl⟩
              have hri : (m : Int) - 1 - (j : Int) = (r : Int) := by omega
              have hrm : r < m := by omega
              have hrI : (r : Int) < (m : Int) := by omega
              obtain ⟨b, x, y, q, l, cq, rfl, x0, x1, x2, hcm⟩ := late_come HG.out HJ.out hrm
              have HCM : Hid (∀ W', Below wr.heap.size wr W' → Calls Tryz.prog 27 #[.pointer (some ⟨gb, 0, none⟩), .agg #[.int .i64 x, .int .i64 y, .slice q l cq]] W' fun e w' => e = .returned (.bool true) ∧ LatC W n gb pb pc rbs done (.slice (some ⟨b, 0, none⟩) m cl) m (some t) w') := hcm
              clear hcm hr
              go_wp2_with (first
                | (go_at_call 27; refine (HCM.out _ (Below.refl _ _)).mono ?_; rintro e w5 ⟨rfl, h5⟩; have H5 : Hid (LatC W n gb pb pc rbs done (.slice (some ⟨b, 0, none⟩) m cl) m (some t) w5) := h5; clear h5)
                | (go_at_call 18; refine (HP3.out _).mono ?_; rintro e w' ⟨rfl, hw⟩; have hw' := hw.symm; clear hw; subst hw'))
              go_roundw
              case rel => exact ⟨j + 1, by omega, by simp, H5⟩
              case measure => simp [intOf]; omega
          · have hji : ¬ (j : Int) < (m : Int) := by omega
            have HOL : Hid (∀ w, LatC W n gb pb pc rbs done (.slice pl m cl) m (some t) w → Below W.heap.size W w) := fun w h => h.old
            go_wp2_with (first
              | (go_at_call 23; refine (HV2.out _ _ HC4.out).mono ?_; rintro e w9 ⟨rfl, HC5⟩)
              | (go_at_call 22; refine (HAL.out _ _ _ (by omega) HJ.out).mono ?_; rintro e w8 ⟨rfl, g0, g1, HC4⟩))
            go_ret
            exact ⟨rfl, HOL.out _ HC5.out⟩
      · have hki : ¬ (k : Int) < (sc.length : Int) := by omega
        go_wp2_with (first
          | (go_at_call 23; refine (HV1.out _ HC1.out).mono ?_; rintro e w9 ⟨t, rfl, HC2⟩)
          | (go_at_call 22; refine (HAL.out _ _ _ (by omega) HC0.out).mono ?_; rintro e w8 ⟨rfl, g0, g1, HC1⟩)
          | (go_at_call 21; refine HRO.out.mono ?_; rintro e w7 ⟨rfl, HC0⟩))
        clear HRO HV1 HC0 HC1 g0 g1 e0 E1
        go_loopw [17] (fun i wr => ∃ (j : Nat), j ≤ m ∧ i = .int .i64 (j : Int) ∧ Hid (LatC W n gb pb pc rbs done (.slice pl m cl) m (some t) wr)) (fun i _ => m - (intOf i).toNat)
        case atStart => exact ⟨0, by omega, rfl, HC2⟩
        case round =>
          clear HC2
          obtain ⟨j, hj, rfl, HJ⟩ := hrel
          by_cases hjl : j < m
          · have hji : (j : Int) < (m : Int) := by omega
            have hjm : (j : Int).tmod 3 = ((j % 3 : Nat) : Int) := by rw [Int.tmod_eq_emod_of_nonneg (by omega)]; omega
            obtain ⟨j3, hj3⟩ : ∃ j3, j % 3 = j3 := ⟨_, rfl⟩
            rw [hj3] at hjm
            by_cases he3 : p3 = j3
            · have hne : ((p3 : Int) = (j3 : Int)) := by omega
              go_wp2_with (go_at_call 18; refine (HP3.out _).mono ?_; rintro e w' ⟨rfl, hw⟩; have hw' := hw.symm; clear hw; subst hw')
              go_roundw
              case rel => exact ⟨j + 1, by omega, by simp, HJ⟩
              case measure => simp [intOf]; omega
            · have hne : ¬ ((p3 : Int) = (j3 : Int)) := by omega
              obtain ⟨r, hr⟩ : ∃ r, m - 1 - j = r := ⟨_, rfl⟩
              have hri : (m : Int) - 1 - (j : Int) = (r : Int) := by omega
              have hrm : r < m := by omega
              have hrI : (r : Int) < (m : Int) := by omega
              obtain ⟨b, x, y, q, l, cq, rfl, x0, x1, x2, hcm⟩ := late_come HG.out HJ.out hrm
              have HCM : Hid (∀ W', Below wr.heap.size wr W' → Calls Tryz.prog 27 #[.pointer (some ⟨gb, 0, none⟩), .agg #[.int .i64 x, .int .i64 y, .slice q l cq]] W' fun e w' => e = .returned (.bool true) ∧ LatC W n gb pb pc rbs done (.slice (some ⟨b, 0, none⟩) m cl) m (some t) w') := hcm
              clear hcm hr
              go_wp2_with (first
                | (go_at_call 27; refine (HCM.out _ (Below.refl _ _)).mono ?_; rintro e w5 ⟨rfl, h5⟩; have H5 : Hid (LatC W n gb pb pc rbs done (.slice (some ⟨b, 0, none⟩) m cl) m (some t) w5) := h5; clear h5)
                | (go_at_call 18; refine (HP3.out _).mono ?_; rintro e w' ⟨rfl, hw⟩; have hw' := hw.symm; clear hw; subst hw'))
              go_roundw
              case rel => exact ⟨j + 1, by omega, by simp, H5⟩
              case measure => simp [intOf]; omega
          · have hji : ¬ (j : Int) < (m : Int) := by omega
            have HOL : Hid (∀ w, LatC W n gb pb pc rbs done (.slice pl m cl) m (some t) w → Below W.heap.size W w) := fun w h => h.old
            go_wp2_with (first
              | (go_at_call 23; refine (HV2.out _ _ HC4.out).mono ?_; rintro e w9 ⟨rfl, HC5⟩)
              | (go_at_call 22; refine (HAL.out _ _ _ (by omega) HJ.out).mono ?_; rintro e w8 ⟨rfl, g0, g1, HC4⟩))
            go_ret
            exact ⟨rfl, HOL.out _ HC5.out⟩

end Go.Proofs.YtckmppkdpnhodaaGreatDoor
