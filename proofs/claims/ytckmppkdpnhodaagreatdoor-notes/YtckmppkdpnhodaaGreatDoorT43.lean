/-
  Notes.
-/
import Derived.Test.YtckmppkdpnhodaaGreatDoorT42
namespace Go.Proofs.YtckmppkdpnhodaaGreatDoor
set_option linter.unusedVariables false
set_option linter.unusedSimpArgs false
open Go.RowKit Go.Proofs

attribute [local go_sem ↓] Go.wp_at_zero Go.wp_at_succ

theorem wantB_succ (k : Nat) : wantB (k + 1) = wantB k ++ ⟨#[110, 111, 116, 101, 32, UInt8.ofNat (97 + k), 10]⟩ := by
  apply bytes_ext
  simp [wantB, List.range_succ]

/-- A note is done. -/
theorem note_do {w0 W : World} {n gb pb pc : Nat} {rbs : Nat → Nat} {S : Nat → Sr} (h : GrpR w0 n 10 1000 gb pb pc rbs S W) (hg : Glob w0) {k : Nat} (hN : NoteI n k S) (hk : k < n) (htot : totalS n S < 10) (s : ByteArray) (hs : s.size ≤ 100) (hr : readC s = some (noteC k)) :
    Calls Tryz.prog 20 #[.pointer (some ⟨rbs k, 0, none⟩), .string s] W fun e w' => e = .returned (.int .i64 0) ∧ ∃ S', NoteI n (k + 1) S' ∧ totalS n S' = totalS n S + 1 ∧ GrpR w0 n 10 1000 gb pb pc rbs S' w' := by
  have he := hN.rest k (Nat.le_refl _)
  refine (h.do hg hk htot s (by unfold maxLen; omega) hr (by rfl) (by rw [he]; decide)).mono ?_
  rintro e w' ⟨h1, x, h2, h3, h4, h5, h6⟩
  exact ⟨h1, _, hN.step h3 h4 h5 h2, totalS_do hk h3, h6⟩

/-- All notes are known everywhere. -/
structure Noted (n : Nat) (S S2 : Nat → Sr) : Prop where
  i : NoteI n n S
  ok : NetOk n S2
  all : AllKnow n S2
  own : ∀ i, i < n → ownL i (S2 i).log = ownL i (S i).log
  its : ∀ i, i < n → (S2 i).its = []
  tot : totalS n S2 = n
  now : ∀ i, i < n → (S2 i).now = 62

theorem Noted.cart {n : Nat} {S S2 : Nat → Sr} (h : Noted n S S2) {i j : Nat} (hi : i < n) (hj : j < n) : cartG (S2 i).log (S2 i).log = cartG (S2 j).log (S2 j).log := cartG_perm (h.all.perm h.ok hi hj)

theorem Noted.text {n : Nat} {S S2 : Nat → Sr} (h : Noted n S S2) (hn : 2 ≤ n ∧ n ≤ 5) {i : Nat} (hi : i < n) : TextIs (cartG (S2 i).log (S2 i).log) (wantB n) := by
  obtain ⟨h1, h2⟩ := h.i.log h.ok h.all h.own hi
  exact notes1 hn h1 h2

theorem note_rounds {w0 W : World} {n gb pb pc : Nat} {rbs : Nat → Nat} {S : Nat → Sr} (h : GrpR w0 n 10 1000 gb pb pc rbs S W) (hg : Glob w0) (hN : NoteI n n S) (bw : Bool) :
    Calls Tryz.prog 21 #[.pointer (some ⟨gb, 0, none⟩), .int .i64 62, .bool bw, .bool false] W fun e w' => e = .returned (.bool true) ∧ ∃ S2, Noted n S S2 ∧ GrpR w0 n 10 1000 gb pb pc rbs S2 w' := by
  refine (h.rounds hg 62 (by omega) (fun i hi => by rw [hN.now i hi]; omega) bw false).mono ?_
  rintro e w' ⟨he, S2, h1, h2, h3⟩
  obtain ⟨q1, q2, q3, q4, q5, -⟩ := h1.rest h.n5.2 h.ok (by omega)
  exact ⟨he, S2, ⟨hN, q1, q2, q5, q4, by rw [q3, hN.total], fun i hi => by rw [h3 i hi, hN.now i hi]⟩, h2⟩

theorem note_alike {w0 W : World} {n gb pb pc : Nat} {rbs : Nat → Nat} {S S2 : Nat → Sr} (h : GrpR w0 n 10 1000 gb pb pc rbs S2 W) (hg : Glob w0) (hN : Noted n S S2) :
    Calls Tryz.prog 22 #[.pointer (some ⟨gb, 0, none⟩), .int .i64 (n : Int)] W fun e w' => e = .returned (.bool true) ∧ GrpR w0 n 10 1000 gb pb pc rbs S2 w' :=
  h.alike hg n (fun i hi => by rw [hN.all i hi, hN.tot]) _ fun i hi => hN.cart hi (j := 0) (by have := h.n5; omega)

/-- The last note is done. -/
theorem note_z {w0 W : World} {n gb pb pc : Nat} {rbs : Nat → Nat} {S S2 : Nat → Sr} (h : GrpR w0 n 10 1000 gb pb pc rbs S2 W) (hg : Glob w0) (hN : Noted n S S2) {m : Nat} (hm : m < n) :
    Calls Tryz.prog 20 #[.pointer (some ⟨rbs m, 0, none⟩), .string ⟨#[110, 111, 116, 101, 32, 122]⟩] W fun e w' => e = .returned (.int .i64 0) ∧ ∃ z, z.c = noteZ ∧ z.org = m ∧ z.seq = cntL (S2 m).log m + 1 ∧ z.ah = reachOf (S2 m).log ∧ GrpR w0 n 10 1000 gb pb pc rbs (updS S2 m (doS n m (S2 m) z)) w' := by
  have hn := h.n5
  exact h.do hg hm (by rw [hN.tot]; omega) _ (by decide +kernel) (c := noteZ) (by kernel_rfl) (by rfl) (by rw [hN.its m hm]; decide)

theorem note_rounds2 {w0 W : World} {n gb pb pc : Nat} {rbs : Nat → Nat} {S S2 : Nat → Sr} {m : Nat} (hm : m < n) {z : En} (hzc : z.c = noteZ) (hzo : z.org = m) (hzs : z.seq = cntL (S2 m).log m + 1) (hza : z.ah = reachOf (S2 m).log) (h : GrpR w0 n 10 1000 gb pb pc rbs (updS S2 m (doS n m (S2 m) z)) W) (hg : Glob w0) (hN : Noted n S S2) (bw : Bool) :
    Calls Tryz.prog 21 #[.pointer (some ⟨gb, 0, none⟩), .int .i64 62, .bool bw, .bool false] W fun e w' => e = .returned (.bool true) ∧ ∃ S4, (∀ i, i < n → (S4 i).log.length = n + 1) ∧ (∀ i, i < n → cartG (S4 i).log (S4 i).log = cartG (S4 0).log (S4 0).log) ∧ TextIs (cartG (S4 0).log (S4 0).log) ⟨#[110, 111, 116, 101, 32, 122, 10]⟩ ∧ GrpR w0 n 10 1000 gb pb pc rbs S4 w' := by
  have hn := h.n5
  refine (h.rounds hg 62 (by omega) (fun i hi => ?_) bw false).mono ?_
  · by_cases e : i = m
    · rw [e, updS_same]; show (S2 m).now + 62 ≤ 1000; rw [hN.now m hm]; omega
    · rw [updS_other _ _ e, hN.now i hi]; omega
  rintro e w' ⟨he, S4, h1, h2, -⟩
  obtain ⟨q1, q2, q3, q4, q5, -⟩ := h1.rest hn.2 h.ok (by omega)
  have ht : totalS n S4 = n + 1 := by rw [q3, totalS_do hm hzo, hN.tot]
  exact ⟨he, S4, fun i hi => by rw [q2 i hi, ht], fun i hi => cartG_perm (q2.perm q1 hi (by omega)), hN.i.log2 hN.ok hN.all hN.own hm hzo hzs hza hzc q1 q2 q5 (by omega), h2⟩

set_option maxRecDepth 100000 in
set_option maxHeartbeats 8000000 in
theorem notesG (W : World) (hg : Glob W) (nr : Int) (hnr : -9223372036854775808 ≤ nr ∧ nr ≤ 9223372036854775807) (bw : Bool) :
    Calls Tryz.prog 8 #[.int .i64 nr, .bool bw] W fun e w' => e = .returned (.bool true) ∧ Below W.heap.size W w' := by
  have HG : Hid (Glob W) := hg
  have HPK : Hid (Calls Tryz.prog 18 #[.int .i64 nr, .int .i64 4] W fun e w' => e = .returned (.int .i64 (pickN nr 4 : Int)) ∧ w' = W) := pickK nr 4 W hnr (by omega)
  have hq : pickN nr 4 < 4 := by have : (pickN nr 4 : Int) < 4 := pickN_lt (by omega); omega
  generalize pickN nr 4 = q at *
  have HBG : Hid (Calls Tryz.prog 19 #[.int .i64 (2 + (q : Int))] W fun e w' => ∃ gb pb pc rbs, e = .returned (.pointer (some ⟨gb, 0, none⟩)) ∧ Hid (GrpR W (2 + q) 10 1000 gb pb pc rbs (fun _ => Sr.empty) w')) := by
    have := begunR (2 + q) (by omega) W (LB := 10) (NB := 1000) (by omega) (by omega)
    have e : ((2 + q : Nat) : Int) = 2 + (q : Int) := by omega
    rwa [e] at this
  clear hg hnr
  go_enter Tryz.func8, Tryz.ntmps8
  go_wp2_with (first
    | (go_at_call 18; refine HPK.out.mono ?_; rintro e w' ⟨rfl, hw⟩; have hw' := hw.symm; clear hw; subst hw')
    | (go_at_call 19; refine HBG.out.mono ?_; rintro e w2 ⟨gb, pb, pc, rbs, rfl, H2⟩))
  obtain ⟨n, hnq⟩ : ∃ n, 2 + q = n := ⟨_, rfl⟩
  have hni : 2 + (q : Int) = (n : Int) := by omega
  rw [hnq] at H2
  have hn5 : 2 ≤ n ∧ n ≤ 5 := by omega
  simp only [hni]
  have hmx : Tryz.prog.follows .mixedOrders = true := by kernel_rfl
  have HST : Hid (NoteI n 0 (fun _ => Sr.empty) ∧ totalS n (fun _ => Sr.empty) = 0 ∧ GrpR W n 10 1000 gb pb pc rbs (fun _ => Sr.empty) w2) := by
    refine ⟨⟨fun j hj => by omega, fun _ _ => rfl, fun _ _ => rfl⟩, ?_, H2.out⟩
    have : ∀ m, totalS m (fun _ => Sr.empty) = 0 := fun m => by
      unfold totalS
      induction m with
      | zero => rfl
      | succ m ih => rw [sumTo_succ, ih]; rfl
    exact this n
  clear hnq hni hq HPK HBG H2
  go_loopw [7, 8] (fun v i wr => ∃ (k : Nat) (S : Nat → Sr), k ≤ n ∧ i = .int .i64 (k : Int) ∧ v = .string (wantB k) ∧ Hid (NoteI n k S ∧ totalS n S = k ∧ GrpR W n 10 1000 gb pb pc rbs S wr)) (fun _ i _ => n - (intOf i).toNat)
  case atStart => exact ⟨0, _, by omega, rfl, rfl, HST⟩
  case round =>
    obtain ⟨k, S, hk, rfl, rfl, HI⟩ := hrel
    have c0 := HI.out.2.2.c0
    by_cases hlt : k < n
    · have cp := HI.out.2.2.ptr hlt
      have hki : (k : Int) < (n : Int) := by omega
      have HDO : Hid (∀ s : ByteArray, s.size ≤ 100 → readC s = some (noteC k) → Calls Tryz.prog 20 #[.pointer (some ⟨rbs k, 0, none⟩), .string s] wr.drew fun e w' => e = .returned (.int .i64 0) ∧ (w'.cell? ⟨gb, 0, none⟩ = some (.slice (some ⟨pb, 0, none⟩) n pc) ∧ w'.cell? ⟨pb, k, none⟩ = some (.pointer (some ⟨rbs k, 0, none⟩))) ∧ ∃ S', Hid (NoteI n (k + 1) S' ∧ totalS n S' = k + 1 ∧ GrpR W n 10 1000 gb pb pc rbs S' w')) := fun s hs hr => by
        refine (note_do (HI.out.2.2.below (Below.refl _ wr).drew) HG.out HI.out.1 hlt (by have := HI.out.2.1; omega) s hs hr).mono ?_
        rintro e w' ⟨he, S', h1, h2, h3⟩
        exact ⟨he, ⟨h3.c0, h3.ptr hlt⟩, S', h1, by rw [h2, HI.out.2.1], h3⟩
      have HWS : Hid (wantB (k + 1) = wantB k ++ ⟨#[110, 111, 116, 101, 32, UInt8.ofNat (97 + k), 10]⟩) := wantB_succ k
      generalize rbs k = rk at *
      clear HI
      rcases (show k = 0 ∨ k = 1 ∨ k = 2 ∨ k = 3 ∨ k = 4 by omega) with rfl | rfl | rfl | rfl | rfl
      · have hS : (fun w' : World => w'.cell? ⟨gb, 0, none⟩ = some (.slice (some ⟨pb, 0, none⟩) n pc) ∧ w'.cell? ⟨pb, 0, none⟩ = some (.pointer (some ⟨rk, 0, none⟩))) wr.drew := ⟨c0, cp⟩
        go_upto_region 9 with fail
        refine wp_region_held (S := (fun w' : World => w'.cell? ⟨gb, 0, none⟩ = some (.slice (some ⟨pb, 0, none⟩) n pc) ∧ w'.cell? ⟨pb, 0, none⟩ = some (.pointer (some ⟨rk, 0, none⟩)))) hmx ?_
        refine wpAnyH_take (i := 0) (v := (.pointer (some ⟨gb, 0, none⟩))) rfl (by kernel_rfl) (by kernel_rfl) (by kernel_rfl) (fun _ _ _ h => h) (Or.inl ⟨by rfl, ?_⟩) hS ?_
        · intro W hSw
          obtain ⟨s0, s1⟩ := hSw
          go_simp
        dsimp only [List.getElem_toArray, List.getElem_cons_zero, List.getElem_cons_succ]
        simp only [Act.put, List.setIfInBounds_toArray, List.set_cons_zero, List.set_cons_succ]
        refine wpAnyH_take (i := 1) (v := (.pointer (some ⟨gb, 0, none⟩))) rfl (by kernel_rfl) (by kernel_rfl) (by kernel_rfl) (fun _ _ _ h => h) (Or.inl ⟨by rfl, ?_⟩) hS ?_
        · intro W hSw
          obtain ⟨s0, s1⟩ := hSw
          go_simp
        dsimp only [List.getElem_toArray, List.getElem_cons_zero, List.getElem_cons_succ]
        simp only [Act.put, List.setIfInBounds_toArray, List.set_cons_zero, List.set_cons_succ]
        refine wpAnyH_take (i := 2) (v := (.pointer (some ⟨gb, 0, none⟩))) rfl (by kernel_rfl) (by kernel_rfl) (by kernel_rfl) (fun _ _ _ h => h) (Or.inl ⟨by rfl, ?_⟩) hS ?_
        · intro W hSw
          obtain ⟨s0, s1⟩ := hSw
          go_simp
        dsimp only [List.getElem_toArray, List.getElem_cons_zero, List.getElem_cons_succ]
        simp only [Act.put, List.setIfInBounds_toArray, List.set_cons_zero, List.set_cons_succ]
        refine wpAnyH_take (i := 3) (v := (.slice (some ⟨pb, 0, none⟩) n pc)) rfl (by kernel_rfl) (by kernel_rfl) (by kernel_rfl) (fun _ _ _ h => h) (Or.inl ⟨by rfl, ?_⟩) hS ?_
        · intro W hSw
          obtain ⟨s0, s1⟩ := hSw
          go_simp
        dsimp only [List.getElem_toArray, List.getElem_cons_zero, List.getElem_cons_succ]
        simp only [Act.put, List.setIfInBounds_toArray, List.set_cons_zero, List.set_cons_succ]
        refine wpAnyH_take (i := 4) (v := (.int .i64 0)) rfl (by kernel_rfl) (by kernel_rfl) (by kernel_rfl) (fun _ _ _ h => h) (Or.inl ⟨by rfl, ?_⟩) hS ?_
        · intro W hSw
          obtain ⟨s0, s1⟩ := hSw
          go_simp
        dsimp only [List.getElem_toArray, List.getElem_cons_zero, List.getElem_cons_succ]
        simp only [Act.put, List.setIfInBounds_toArray, List.set_cons_zero, List.set_cons_succ]
        refine wpAnyH_take (i := 5) (v := (.pointer (some ⟨pb, 0, none⟩))) rfl (by kernel_rfl) (by kernel_rfl) (by kernel_rfl) (fun _ _ _ h => h) (Or.inl ⟨by rfl, ?_⟩) hS ?_
        · intro W hSw
          obtain ⟨s0, s1⟩ := hSw
          go_simp
        dsimp only [List.getElem_toArray, List.getElem_cons_zero, List.getElem_cons_succ]
        simp only [Act.put, List.setIfInBounds_toArray, List.set_cons_zero, List.set_cons_succ]
        refine wpAnyH_take (i := 6) (v := (.pointer (some ⟨rk, 0, none⟩))) rfl (by kernel_rfl) (by kernel_rfl) (by kernel_rfl) (fun _ _ _ h => h) (Or.inl ⟨by rfl, ?_⟩) hS ?_
        · intro W hSw
          obtain ⟨s0, s1⟩ := hSw
          go_simp
        dsimp only [List.getElem_toArray, List.getElem_cons_zero, List.getElem_cons_succ]
        simp only [Act.put, List.setIfInBounds_toArray, List.set_cons_zero, List.set_cons_succ]
        refine wpAnyH_take (i := 7) (v := (.int .i64 0)) rfl (by kernel_rfl) (by kernel_rfl) (by kernel_rfl) (fun _ _ _ h => h) (Or.inl ⟨by rfl, ?_⟩) hS ?_
        · intro W hSw
          obtain ⟨s0, s1⟩ := hSw
          go_simp
        dsimp only [List.getElem_toArray, List.getElem_cons_zero, List.getElem_cons_succ]
        simp only [Act.put, List.setIfInBounds_toArray, List.set_cons_zero, List.set_cons_succ]
        refine wpAnyH_take (i := 8) (v := (.int .i64 0)) rfl (by kernel_rfl) (by kernel_rfl) (by kernel_rfl) (fun _ _ _ h => h) (Or.inl ⟨by rfl, ?_⟩) hS ?_
        · intro W hSw
          obtain ⟨s0, s1⟩ := hSw
          go_simp
        dsimp only [List.getElem_toArray, List.getElem_cons_zero, List.getElem_cons_succ]
        simp only [Act.put, List.setIfInBounds_toArray, List.set_cons_zero, List.set_cons_succ]
        refine wpAnyH_take (i := 9) (v := (.int .i64 1)) rfl (by kernel_rfl) (by kernel_rfl) (by kernel_rfl) (fun _ _ _ h => h) (Or.inl ⟨by rfl, ?_⟩) hS ?_
        · intro W hSw
          obtain ⟨s0, s1⟩ := hSw
          go_simp
          all_goals kernel_rfl
        dsimp only [List.getElem_toArray, List.getElem_cons_zero, List.getElem_cons_succ]
        simp only [Act.put, List.setIfInBounds_toArray, List.set_cons_zero, List.set_cons_succ]
        refine wpAnyH_take (i := 10) (v := (.string ⟨#[97]⟩)) rfl (by kernel_rfl) (by kernel_rfl) (by kernel_rfl) (fun _ _ _ h => h) (Or.inl ⟨by rfl, ?_⟩) hS ?_
        · intro W hSw
          obtain ⟨s0, s1⟩ := hSw
          go_simp
          all_goals kernel_rfl
        dsimp only [List.getElem_toArray, List.getElem_cons_zero, List.getElem_cons_succ]
        simp only [Act.put, List.setIfInBounds_toArray, List.set_cons_zero, List.set_cons_succ]
        refine wpAnyH_take (i := 11) (v := (.string ⟨#[110, 111, 116, 101, 32, 97]⟩)) rfl (by kernel_rfl) (by kernel_rfl) (by kernel_rfl) (fun _ _ _ h => h) (Or.inl ⟨by rfl, ?_⟩) hS ?_
        · intro W hSw
          obtain ⟨s0, s1⟩ := hSw
          go_simp
          all_goals kernel_rfl
        dsimp only [List.getElem_toArray, List.getElem_cons_zero, List.getElem_cons_succ]
        simp only [Act.put, List.setIfInBounds_toArray, List.set_cons_zero, List.set_cons_succ]
        refine wpAnyH_ready (rs := [12]) (by kernel_rfl) (by simp) ?_
        refine AllReadyH.cons rfl (fun K hK => ?_) AllReadyH.nil
        rw [if_pos (by rfl)]
        dsimp only [List.getElem_toArray, List.getElem_cons_zero, List.getElem_cons_succ]
        go_simp
        refine (HDO.out ⟨#[110, 111, 116, 101, 32, 97]⟩ (by decide +kernel) (by kernel_rfl)).mono ?_
        rintro e w4 ⟨rfl, hS4, S', HN4⟩
        refine hK.out _ _ hS4 (fun _ => ?_)
        clear hK K
        try simp only [Act.put, List.setIfInBounds_toArray, List.set_cons_zero, List.set_cons_succ]
        refine wpAnyH_ready (rs := [13]) (by kernel_rfl) (by simp) ?_
        refine AllReadyH.cons rfl (fun K hK => ?_) AllReadyH.nil
        rw [if_pos (by rfl)]
        dsimp only [List.getElem_toArray, List.getElem_cons_zero, List.getElem_cons_succ]
        go_simp
        refine hK.out _ _ hS4 (fun _ => ?_)
        clear hK K
        try simp only [Act.put, List.setIfInBounds_toArray, List.set_cons_zero, List.set_cons_succ]
        refine wpAnyH_done (by kernel_rfl) ?_ _
        clear hS hS4 c0 cp HDO
        go_wp2
        go_roundw
        case rel => exact ⟨1, S', by omega, by rfl, by rw [HWS.out]; kernel_rfl, HN4⟩
        case measure => simp [intOf]; omega
      · have hS : (fun w' : World => w'.cell? ⟨gb, 0, none⟩ = some (.slice (some ⟨pb, 0, none⟩) n pc) ∧ w'.cell? ⟨pb, 1, none⟩ = some (.pointer (some ⟨rk, 0, none⟩))) wr.drew := ⟨c0, cp⟩
        go_upto_region 9 with fail
        refine wp_region_held (S := (fun w' : World => w'.cell? ⟨gb, 0, none⟩ = some (.slice (some ⟨pb, 0, none⟩) n pc) ∧ w'.cell? ⟨pb, 1, none⟩ = some (.pointer (some ⟨rk, 0, none⟩)))) hmx ?_
        refine wpAnyH_take (i := 0) (v := (.pointer (some ⟨gb, 0, none⟩))) rfl (by kernel_rfl) (by kernel_rfl) (by kernel_rfl) (fun _ _ _ h => h) (Or.inl ⟨by rfl, ?_⟩) hS ?_
        · intro W hSw
          obtain ⟨s0, s1⟩ := hSw
          go_simp
        dsimp only [List.getElem_toArray, List.getElem_cons_zero, List.getElem_cons_succ]
        simp only [Act.put, List.setIfInBounds_toArray, List.set_cons_zero, List.set_cons_succ]
        refine wpAnyH_take (i := 1) (v := (.pointer (some ⟨gb, 0, none⟩))) rfl (by kernel_rfl) (by kernel_rfl) (by kernel_rfl) (fun _ _ _ h => h) (Or.inl ⟨by rfl, ?_⟩) hS ?_
        · intro W hSw
          obtain ⟨s0, s1⟩ := hSw
          go_simp
        dsimp only [List.getElem_toArray, List.getElem_cons_zero, List.getElem_cons_succ]
        simp only [Act.put, List.setIfInBounds_toArray, List.set_cons_zero, List.set_cons_succ]
        refine wpAnyH_take (i := 2) (v := (.pointer (some ⟨gb, 0, none⟩))) rfl (by kernel_rfl) (by kernel_rfl) (by kernel_rfl) (fun _ _ _ h => h) (Or.inl ⟨by rfl, ?_⟩) hS ?_
        · intro W hSw
          obtain ⟨s0, s1⟩ := hSw
          go_simp
        dsimp only [List.getElem_toArray, List.getElem_cons_zero, List.getElem_cons_succ]
        simp only [Act.put, List.setIfInBounds_toArray, List.set_cons_zero, List.set_cons_succ]
        refine wpAnyH_take (i := 3) (v := (.slice (some ⟨pb, 0, none⟩) n pc)) rfl (by kernel_rfl) (by kernel_rfl) (by kernel_rfl) (fun _ _ _ h => h) (Or.inl ⟨by rfl, ?_⟩) hS ?_
        · intro W hSw
          obtain ⟨s0, s1⟩ := hSw
          go_simp
        dsimp only [List.getElem_toArray, List.getElem_cons_zero, List.getElem_cons_succ]
        simp only [Act.put, List.setIfInBounds_toArray, List.set_cons_zero, List.set_cons_succ]
        refine wpAnyH_take (i := 4) (v := (.int .i64 1)) rfl (by kernel_rfl) (by kernel_rfl) (by kernel_rfl) (fun _ _ _ h => h) (Or.inl ⟨by rfl, ?_⟩) hS ?_
        · intro W hSw
          obtain ⟨s0, s1⟩ := hSw
          go_simp
        dsimp only [List.getElem_toArray, List.getElem_cons_zero, List.getElem_cons_succ]
        simp only [Act.put, List.setIfInBounds_toArray, List.set_cons_zero, List.set_cons_succ]
        refine wpAnyH_take (i := 5) (v := (.pointer (some ⟨pb, 1, none⟩))) rfl (by kernel_rfl) (by kernel_rfl) (by kernel_rfl) (fun _ _ _ h => h) (Or.inl ⟨by rfl, ?_⟩) hS ?_
        · intro W hSw
          obtain ⟨s0, s1⟩ := hSw
          go_simp
        dsimp only [List.getElem_toArray, List.getElem_cons_zero, List.getElem_cons_succ]
        simp only [Act.put, List.setIfInBounds_toArray, List.set_cons_zero, List.set_cons_succ]
        refine wpAnyH_take (i := 6) (v := (.pointer (some ⟨rk, 0, none⟩))) rfl (by kernel_rfl) (by kernel_rfl) (by kernel_rfl) (fun _ _ _ h => h) (Or.inl ⟨by rfl, ?_⟩) hS ?_
        · intro W hSw
          obtain ⟨s0, s1⟩ := hSw
          go_simp
        dsimp only [List.getElem_toArray, List.getElem_cons_zero, List.getElem_cons_succ]
        simp only [Act.put, List.setIfInBounds_toArray, List.set_cons_zero, List.set_cons_succ]
        refine wpAnyH_take (i := 7) (v := (.int .i64 1)) rfl (by kernel_rfl) (by kernel_rfl) (by kernel_rfl) (fun _ _ _ h => h) (Or.inl ⟨by rfl, ?_⟩) hS ?_
        · intro W hSw
          obtain ⟨s0, s1⟩ := hSw
          go_simp
        dsimp only [List.getElem_toArray, List.getElem_cons_zero, List.getElem_cons_succ]
        simp only [Act.put, List.setIfInBounds_toArray, List.set_cons_zero, List.set_cons_succ]
        refine wpAnyH_take (i := 8) (v := (.int .i64 1)) rfl (by kernel_rfl) (by kernel_rfl) (by kernel_rfl) (fun _ _ _ h => h) (Or.inl ⟨by rfl, ?_⟩) hS ?_
        · intro W hSw
          obtain ⟨s0, s1⟩ := hSw
          go_simp
        dsimp only [List.getElem_toArray, List.getElem_cons_zero, List.getElem_cons_succ]
        simp only [Act.put, List.setIfInBounds_toArray, List.set_cons_zero, List.set_cons_succ]
        refine wpAnyH_take (i := 9) (v := (.int .i64 2)) rfl (by kernel_rfl) (by kernel_rfl) (by kernel_rfl) (fun _ _ _ h => h) (Or.inl ⟨by rfl, ?_⟩) hS ?_
        · intro W hSw
          obtain ⟨s0, s1⟩ := hSw
          go_simp
          all_goals kernel_rfl
        dsimp only [List.getElem_toArray, List.getElem_cons_zero, List.getElem_cons_succ]
        simp only [Act.put, List.setIfInBounds_toArray, List.set_cons_zero, List.set_cons_succ]
        refine wpAnyH_take (i := 10) (v := (.string ⟨#[98]⟩)) rfl (by kernel_rfl) (by kernel_rfl) (by kernel_rfl) (fun _ _ _ h => h) (Or.inl ⟨by rfl, ?_⟩) hS ?_
        · intro W hSw
          obtain ⟨s0, s1⟩ := hSw
          go_simp
          all_goals kernel_rfl
        dsimp only [List.getElem_toArray, List.getElem_cons_zero, List.getElem_cons_succ]
        simp only [Act.put, List.setIfInBounds_toArray, List.set_cons_zero, List.set_cons_succ]
        refine wpAnyH_take (i := 11) (v := (.string ⟨#[110, 111, 116, 101, 32, 98]⟩)) rfl (by kernel_rfl) (by kernel_rfl) (by kernel_rfl) (fun _ _ _ h => h) (Or.inl ⟨by rfl, ?_⟩) hS ?_
        · intro W hSw
          obtain ⟨s0, s1⟩ := hSw
          go_simp
          all_goals kernel_rfl
        dsimp only [List.getElem_toArray, List.getElem_cons_zero, List.getElem_cons_succ]
        simp only [Act.put, List.setIfInBounds_toArray, List.set_cons_zero, List.set_cons_succ]
        refine wpAnyH_ready (rs := [12]) (by kernel_rfl) (by simp) ?_
        refine AllReadyH.cons rfl (fun K hK => ?_) AllReadyH.nil
        rw [if_pos (by rfl)]
        dsimp only [List.getElem_toArray, List.getElem_cons_zero, List.getElem_cons_succ]
        go_simp
        refine (HDO.out ⟨#[110, 111, 116, 101, 32, 98]⟩ (by decide +kernel) (by kernel_rfl)).mono ?_
        rintro e w4 ⟨rfl, hS4, S', HN4⟩
        refine hK.out _ _ hS4 (fun _ => ?_)
        clear hK K
        try simp only [Act.put, List.setIfInBounds_toArray, List.set_cons_zero, List.set_cons_succ]
        refine wpAnyH_ready (rs := [13]) (by kernel_rfl) (by simp) ?_
        refine AllReadyH.cons rfl (fun K hK => ?_) AllReadyH.nil
        rw [if_pos (by rfl)]
        dsimp only [List.getElem_toArray, List.getElem_cons_zero, List.getElem_cons_succ]
        go_simp
        refine hK.out _ _ hS4 (fun _ => ?_)
        clear hK K
        try simp only [Act.put, List.setIfInBounds_toArray, List.set_cons_zero, List.set_cons_succ]
        refine wpAnyH_done (by kernel_rfl) ?_ _
        clear hS hS4 c0 cp HDO
        go_wp2
        go_roundw
        case rel => exact ⟨2, S', by omega, by rfl, by rw [HWS.out]; kernel_rfl, HN4⟩
        case measure => simp [intOf]; omega
      · have hS : (fun w' : World => w'.cell? ⟨gb, 0, none⟩ = some (.slice (some ⟨pb, 0, none⟩) n pc) ∧ w'.cell? ⟨pb, 2, none⟩ = some (.pointer (some ⟨rk, 0, none⟩))) wr.drew := ⟨c0, cp⟩
        go_upto_region 9 with fail
        refine wp_region_held (S := (fun w' : World => w'.cell? ⟨gb, 0, none⟩ = some (.slice (some ⟨pb, 0, none⟩) n pc) ∧ w'.cell? ⟨pb, 2, none⟩ = some (.pointer (some ⟨rk, 0, none⟩)))) hmx ?_
        refine wpAnyH_take (i := 0) (v := (.pointer (some ⟨gb, 0, none⟩))) rfl (by kernel_rfl) (by kernel_rfl) (by kernel_rfl) (fun _ _ _ h => h) (Or.inl ⟨by rfl, ?_⟩) hS ?_
        · intro W hSw
          obtain ⟨s0, s1⟩ := hSw
          go_simp
        dsimp only [List.getElem_toArray, List.getElem_cons_zero, List.getElem_cons_succ]
        simp only [Act.put, List.setIfInBounds_toArray, List.set_cons_zero, List.set_cons_succ]
        refine wpAnyH_take (i := 1) (v := (.pointer (some ⟨gb, 0, none⟩))) rfl (by kernel_rfl) (by kernel_rfl) (by kernel_rfl) (fun _ _ _ h => h) (Or.inl ⟨by rfl, ?_⟩) hS ?_
        · intro W hSw
          obtain ⟨s0, s1⟩ := hSw
          go_simp
        dsimp only [List.getElem_toArray, List.getElem_cons_zero, List.getElem_cons_succ]
        simp only [Act.put, List.setIfInBounds_toArray, List.set_cons_zero, List.set_cons_succ]
        refine wpAnyH_take (i := 2) (v := (.pointer (some ⟨gb, 0, none⟩))) rfl (by kernel_rfl) (by kernel_rfl) (by kernel_rfl) (fun _ _ _ h => h) (Or.inl ⟨by rfl, ?_⟩) hS ?_
        · intro W hSw
          obtain ⟨s0, s1⟩ := hSw
          go_simp
        dsimp only [List.getElem_toArray, List.getElem_cons_zero, List.getElem_cons_succ]
        simp only [Act.put, List.setIfInBounds_toArray, List.set_cons_zero, List.set_cons_succ]
        refine wpAnyH_take (i := 3) (v := (.slice (some ⟨pb, 0, none⟩) n pc)) rfl (by kernel_rfl) (by kernel_rfl) (by kernel_rfl) (fun _ _ _ h => h) (Or.inl ⟨by rfl, ?_⟩) hS ?_
        · intro W hSw
          obtain ⟨s0, s1⟩ := hSw
          go_simp
        dsimp only [List.getElem_toArray, List.getElem_cons_zero, List.getElem_cons_succ]
        simp only [Act.put, List.setIfInBounds_toArray, List.set_cons_zero, List.set_cons_succ]
        refine wpAnyH_take (i := 4) (v := (.int .i64 2)) rfl (by kernel_rfl) (by kernel_rfl) (by kernel_rfl) (fun _ _ _ h => h) (Or.inl ⟨by rfl, ?_⟩) hS ?_
        · intro W hSw
          obtain ⟨s0, s1⟩ := hSw
          go_simp
        dsimp only [List.getElem_toArray, List.getElem_cons_zero, List.getElem_cons_succ]
        simp only [Act.put, List.setIfInBounds_toArray, List.set_cons_zero, List.set_cons_succ]
        refine wpAnyH_take (i := 5) (v := (.pointer (some ⟨pb, 2, none⟩))) rfl (by kernel_rfl) (by kernel_rfl) (by kernel_rfl) (fun _ _ _ h => h) (Or.inl ⟨by rfl, ?_⟩) hS ?_
        · intro W hSw
          obtain ⟨s0, s1⟩ := hSw
          go_simp
        dsimp only [List.getElem_toArray, List.getElem_cons_zero, List.getElem_cons_succ]
        simp only [Act.put, List.setIfInBounds_toArray, List.set_cons_zero, List.set_cons_succ]
        refine wpAnyH_take (i := 6) (v := (.pointer (some ⟨rk, 0, none⟩))) rfl (by kernel_rfl) (by kernel_rfl) (by kernel_rfl) (fun _ _ _ h => h) (Or.inl ⟨by rfl, ?_⟩) hS ?_
        · intro W hSw
          obtain ⟨s0, s1⟩ := hSw
          go_simp
        dsimp only [List.getElem_toArray, List.getElem_cons_zero, List.getElem_cons_succ]
        simp only [Act.put, List.setIfInBounds_toArray, List.set_cons_zero, List.set_cons_succ]
        refine wpAnyH_take (i := 7) (v := (.int .i64 2)) rfl (by kernel_rfl) (by kernel_rfl) (by kernel_rfl) (fun _ _ _ h => h) (Or.inl ⟨by rfl, ?_⟩) hS ?_
        · intro W hSw
          obtain ⟨s0, s1⟩ := hSw
          go_simp
        dsimp only [List.getElem_toArray, List.getElem_cons_zero, List.getElem_cons_succ]
        simp only [Act.put, List.setIfInBounds_toArray, List.set_cons_zero, List.set_cons_succ]
        refine wpAnyH_take (i := 8) (v := (.int .i64 2)) rfl (by kernel_rfl) (by kernel_rfl) (by kernel_rfl) (fun _ _ _ h => h) (Or.inl ⟨by rfl, ?_⟩) hS ?_
        · intro W hSw
          obtain ⟨s0, s1⟩ := hSw
          go_simp
        dsimp only [List.getElem_toArray, List.getElem_cons_zero, List.getElem_cons_succ]
        simp only [Act.put, List.setIfInBounds_toArray, List.set_cons_zero, List.set_cons_succ]
        refine wpAnyH_take (i := 9) (v := (.int .i64 3)) rfl (by kernel_rfl) (by kernel_rfl) (by kernel_rfl) (fun _ _ _ h => h) (Or.inl ⟨by rfl, ?_⟩) hS ?_
        · intro W hSw
          obtain ⟨s0, s1⟩ := hSw
          go_simp
          all_goals kernel_rfl
        dsimp only [List.getElem_toArray, List.getElem_cons_zero, List.getElem_cons_succ]
        simp only [Act.put, List.setIfInBounds_toArray, List.set_cons_zero, List.set_cons_succ]
        refine wpAnyH_take (i := 10) (v := (.string ⟨#[99]⟩)) rfl (by kernel_rfl) (by kernel_rfl) (by kernel_rfl) (fun _ _ _ h => h) (Or.inl ⟨by rfl, ?_⟩) hS ?_
        · intro W hSw
          obtain ⟨s0, s1⟩ := hSw
          go_simp
          all_goals kernel_rfl
        dsimp only [List.getElem_toArray, List.getElem_cons_zero, List.getElem_cons_succ]
        simp only [Act.put, List.setIfInBounds_toArray, List.set_cons_zero, List.set_cons_succ]
        refine wpAnyH_take (i := 11) (v := (.string ⟨#[110, 111, 116, 101, 32, 99]⟩)) rfl (by kernel_rfl) (by kernel_rfl) (by kernel_rfl) (fun _ _ _ h => h) (Or.inl ⟨by rfl, ?_⟩) hS ?_
        · intro W hSw
          obtain ⟨s0, s1⟩ := hSw
          go_simp
          all_goals kernel_rfl
        dsimp only [List.getElem_toArray, List.getElem_cons_zero, List.getElem_cons_succ]
        simp only [Act.put, List.setIfInBounds_toArray, List.set_cons_zero, List.set_cons_succ]
        refine wpAnyH_ready (rs := [12]) (by kernel_rfl) (by simp) ?_
        refine AllReadyH.cons rfl (fun K hK => ?_) AllReadyH.nil
        rw [if_pos (by rfl)]
        dsimp only [List.getElem_toArray, List.getElem_cons_zero, List.getElem_cons_succ]
        go_simp
        refine (HDO.out ⟨#[110, 111, 116, 101, 32, 99]⟩ (by decide +kernel) (by kernel_rfl)).mono ?_
        rintro e w4 ⟨rfl, hS4, S', HN4⟩
        refine hK.out _ _ hS4 (fun _ => ?_)
        clear hK K
        try simp only [Act.put, List.setIfInBounds_toArray, List.set_cons_zero, List.set_cons_succ]
        refine wpAnyH_ready (rs := [13]) (by kernel_rfl) (by simp) ?_
        refine AllReadyH.cons rfl (fun K hK => ?_) AllReadyH.nil
        rw [if_pos (by rfl)]
        dsimp only [List.getElem_toArray, List.getElem_cons_zero, List.getElem_cons_succ]
        go_simp
        refine hK.out _ _ hS4 (fun _ => ?_)
        clear hK K
        try simp only [Act.put, List.setIfInBounds_toArray, List.set_cons_zero, List.set_cons_succ]
        refine wpAnyH_done (by kernel_rfl) ?_ _
        clear hS hS4 c0 cp HDO
        go_wp2
        go_roundw
        case rel => exact ⟨3, S', by omega, by rfl, by rw [HWS.out]; kernel_rfl, HN4⟩
        case measure => simp [intOf]; omega
      · have hS : (fun w' : World => w'.cell? ⟨gb, 0, none⟩ = some (.slice (some ⟨pb, 0, none⟩) n pc) ∧ w'.cell? ⟨pb, 3, none⟩ = some (.pointer (some ⟨rk, 0, none⟩))) wr.drew := ⟨c0, cp⟩
        go_upto_region 9 with fail
        refine wp_region_held (S := (fun w' : World => w'.cell? ⟨gb, 0, none⟩ = some (.slice (some ⟨pb, 0, none⟩) n pc) ∧ w'.cell? ⟨pb, 3, none⟩ = some (.pointer (some ⟨rk, 0, none⟩)))) hmx ?_
        refine wpAnyH_take (i := 0) (v := (.pointer (some ⟨gb, 0, none⟩))) rfl (by kernel_rfl) (by kernel_rfl) (by kernel_rfl) (fun _ _ _ h => h) (Or.inl ⟨by rfl, ?_⟩) hS ?_
        · intro W hSw
          obtain ⟨s0, s1⟩ := hSw
          go_simp
        dsimp only [List.getElem_toArray, List.getElem_cons_zero, List.getElem_cons_succ]
        simp only [Act.put, List.setIfInBounds_toArray, List.set_cons_zero, List.set_cons_succ]
        refine wpAnyH_take (i := 1) (v := (.pointer (some ⟨gb, 0, none⟩))) rfl (by kernel_rfl) (by kernel_rfl) (by kernel_rfl) (fun _ _ _ h => h) (Or.inl ⟨by rfl, ?_⟩) hS ?_
        · intro W hSw
          obtain ⟨s0, s1⟩ := hSw
          go_simp
        dsimp only [List.getElem_toArray, List.getElem_cons_zero, List.getElem_cons_succ]
        simp only [Act.put, List.setIfInBounds_toArray, List.set_cons_zero, List.set_cons_succ]
        refine wpAnyH_take (i := 2) (v := (.pointer (some ⟨gb, 0, none⟩))) rfl (by kernel_rfl) (by kernel_rfl) (by kernel_rfl) (fun _ _ _ h => h) (Or.inl ⟨by rfl, ?_⟩) hS ?_
        · intro W hSw
          obtain ⟨s0, s1⟩ := hSw
          go_simp
        dsimp only [List.getElem_toArray, List.getElem_cons_zero, List.getElem_cons_succ]
        simp only [Act.put, List.setIfInBounds_toArray, List.set_cons_zero, List.set_cons_succ]
        refine wpAnyH_take (i := 3) (v := (.slice (some ⟨pb, 0, none⟩) n pc)) rfl (by kernel_rfl) (by kernel_rfl) (by kernel_rfl) (fun _ _ _ h => h) (Or.inl ⟨by rfl, ?_⟩) hS ?_
        · intro W hSw
          obtain ⟨s0, s1⟩ := hSw
          go_simp
        dsimp only [List.getElem_toArray, List.getElem_cons_zero, List.getElem_cons_succ]
        simp only [Act.put, List.setIfInBounds_toArray, List.set_cons_zero, List.set_cons_succ]
        refine wpAnyH_take (i := 4) (v := (.int .i64 3)) rfl (by kernel_rfl) (by kernel_rfl) (by kernel_rfl) (fun _ _ _ h => h) (Or.inl ⟨by rfl, ?_⟩) hS ?_
        · intro W hSw
          obtain ⟨s0, s1⟩ := hSw
          go_simp
        dsimp only [List.getElem_toArray, List.getElem_cons_zero, List.getElem_cons_succ]
        simp only [Act.put, List.setIfInBounds_toArray, List.set_cons_zero, List.set_cons_succ]
        refine wpAnyH_take (i := 5) (v := (.pointer (some ⟨pb, 3, none⟩))) rfl (by kernel_rfl) (by kernel_rfl) (by kernel_rfl) (fun _ _ _ h => h) (Or.inl ⟨by rfl, ?_⟩) hS ?_
        · intro W hSw
          obtain ⟨s0, s1⟩ := hSw
          go_simp
        dsimp only [List.getElem_toArray, List.getElem_cons_zero, List.getElem_cons_succ]
        simp only [Act.put, List.setIfInBounds_toArray, List.set_cons_zero, List.set_cons_succ]
        refine wpAnyH_take (i := 6) (v := (.pointer (some ⟨rk, 0, none⟩))) rfl (by kernel_rfl) (by kernel_rfl) (by kernel_rfl) (fun _ _ _ h => h) (Or.inl ⟨by rfl, ?_⟩) hS ?_
        · intro W hSw
          obtain ⟨s0, s1⟩ := hSw
          go_simp
        dsimp only [List.getElem_toArray, List.getElem_cons_zero, List.getElem_cons_succ]
        simp only [Act.put, List.setIfInBounds_toArray, List.set_cons_zero, List.set_cons_succ]
        refine wpAnyH_take (i := 7) (v := (.int .i64 3)) rfl (by kernel_rfl) (by kernel_rfl) (by kernel_rfl) (fun _ _ _ h => h) (Or.inl ⟨by rfl, ?_⟩) hS ?_
        · intro W hSw
          obtain ⟨s0, s1⟩ := hSw
          go_simp
        dsimp only [List.getElem_toArray, List.getElem_cons_zero, List.getElem_cons_succ]
        simp only [Act.put, List.setIfInBounds_toArray, List.set_cons_zero, List.set_cons_succ]
        refine wpAnyH_take (i := 8) (v := (.int .i64 3)) rfl (by kernel_rfl) (by kernel_rfl) (by kernel_rfl) (fun _ _ _ h => h) (Or.inl ⟨by rfl, ?_⟩) hS ?_
        · intro W hSw
          obtain ⟨s0, s1⟩ := hSw
          go_simp
        dsimp only [List.getElem_toArray, List.getElem_cons_zero, List.getElem_cons_succ]
        simp only [Act.put, List.setIfInBounds_toArray, List.set_cons_zero, List.set_cons_succ]
        refine wpAnyH_take (i := 9) (v := (.int .i64 4)) rfl (by kernel_rfl) (by kernel_rfl) (by kernel_rfl) (fun _ _ _ h => h) (Or.inl ⟨by rfl, ?_⟩) hS ?_
        · intro W hSw
          obtain ⟨s0, s1⟩ := hSw
          go_simp
          all_goals kernel_rfl
        dsimp only [List.getElem_toArray, List.getElem_cons_zero, List.getElem_cons_succ]
        simp only [Act.put, List.setIfInBounds_toArray, List.set_cons_zero, List.set_cons_succ]
        refine wpAnyH_take (i := 10) (v := (.string ⟨#[100]⟩)) rfl (by kernel_rfl) (by kernel_rfl) (by kernel_rfl) (fun _ _ _ h => h) (Or.inl ⟨by rfl, ?_⟩) hS ?_
        · intro W hSw
          obtain ⟨s0, s1⟩ := hSw
          go_simp
          all_goals kernel_rfl
        dsimp only [List.getElem_toArray, List.getElem_cons_zero, List.getElem_cons_succ]
        simp only [Act.put, List.setIfInBounds_toArray, List.set_cons_zero, List.set_cons_succ]
        refine wpAnyH_take (i := 11) (v := (.string ⟨#[110, 111, 116, 101, 32, 100]⟩)) rfl (by kernel_rfl) (by kernel_rfl) (by kernel_rfl) (fun _ _ _ h => h) (Or.inl ⟨by rfl, ?_⟩) hS ?_
        · intro W hSw
          obtain ⟨s0, s1⟩ := hSw
          go_simp
          all_goals kernel_rfl
        dsimp only [List.getElem_toArray, List.getElem_cons_zero, List.getElem_cons_succ]
        simp only [Act.put, List.setIfInBounds_toArray, List.set_cons_zero, List.set_cons_succ]
        refine wpAnyH_ready (rs := [12]) (by kernel_rfl) (by simp) ?_
        refine AllReadyH.cons rfl (fun K hK => ?_) AllReadyH.nil
        rw [if_pos (by rfl)]
        dsimp only [List.getElem_toArray, List.getElem_cons_zero, List.getElem_cons_succ]
        go_simp
        refine (HDO.out ⟨#[110, 111, 116, 101, 32, 100]⟩ (by decide +kernel) (by kernel_rfl)).mono ?_
        rintro e w4 ⟨rfl, hS4, S', HN4⟩
        refine hK.out _ _ hS4 (fun _ => ?_)
        clear hK K
        try simp only [Act.put, List.setIfInBounds_toArray, List.set_cons_zero, List.set_cons_succ]
        refine wpAnyH_ready (rs := [13]) (by kernel_rfl) (by simp) ?_
        refine AllReadyH.cons rfl (fun K hK => ?_) AllReadyH.nil
        rw [if_pos (by rfl)]
        dsimp only [List.getElem_toArray, List.getElem_cons_zero, List.getElem_cons_succ]
        go_simp
        refine hK.out _ _ hS4 (fun _ => ?_)
        clear hK K
        try simp only [Act.put, List.setIfInBounds_toArray, List.set_cons_zero, List.set_cons_succ]
        refine wpAnyH_done (by kernel_rfl) ?_ _
        clear hS hS4 c0 cp HDO
        go_wp2
        go_roundw
        case rel => exact ⟨4, S', by omega, by rfl, by rw [HWS.out]; kernel_rfl, HN4⟩
        case measure => simp [intOf]; omega
      · have hS : (fun w' : World => w'.cell? ⟨gb, 0, none⟩ = some (.slice (some ⟨pb, 0, none⟩) n pc) ∧ w'.cell? ⟨pb, 4, none⟩ = some (.pointer (some ⟨rk, 0, none⟩))) wr.drew := ⟨c0, cp⟩
        go_upto_region 9 with fail
        refine wp_region_held (S := (fun w' : World => w'.cell? ⟨gb, 0, none⟩ = some (.slice (some ⟨pb, 0, none⟩) n pc) ∧ w'.cell? ⟨pb, 4, none⟩ = some (.pointer (some ⟨rk, 0, none⟩)))) hmx ?_
        refine wpAnyH_take (i := 0) (v := (.pointer (some ⟨gb, 0, none⟩))) rfl (by kernel_rfl) (by kernel_rfl) (by kernel_rfl) (fun _ _ _ h => h) (Or.inl ⟨by rfl, ?_⟩) hS ?_
        · intro W hSw
          obtain ⟨s0, s1⟩ := hSw
          go_simp
        dsimp only [List.getElem_toArray, List.getElem_cons_zero, List.getElem_cons_succ]
        simp only [Act.put, List.setIfInBounds_toArray, List.set_cons_zero, List.set_cons_succ]
        refine wpAnyH_take (i := 1) (v := (.pointer (some ⟨gb, 0, none⟩))) rfl (by kernel_rfl) (by kernel_rfl) (by kernel_rfl) (fun _ _ _ h => h) (Or.inl ⟨by rfl, ?_⟩) hS ?_
        · intro W hSw
          obtain ⟨s0, s1⟩ := hSw
          go_simp
        dsimp only [List.getElem_toArray, List.getElem_cons_zero, List.getElem_cons_succ]
        simp only [Act.put, List.setIfInBounds_toArray, List.set_cons_zero, List.set_cons_succ]
        refine wpAnyH_take (i := 2) (v := (.pointer (some ⟨gb, 0, none⟩))) rfl (by kernel_rfl) (by kernel_rfl) (by kernel_rfl) (fun _ _ _ h => h) (Or.inl ⟨by rfl, ?_⟩) hS ?_
        · intro W hSw
          obtain ⟨s0, s1⟩ := hSw
          go_simp
        dsimp only [List.getElem_toArray, List.getElem_cons_zero, List.getElem_cons_succ]
        simp only [Act.put, List.setIfInBounds_toArray, List.set_cons_zero, List.set_cons_succ]
        refine wpAnyH_take (i := 3) (v := (.slice (some ⟨pb, 0, none⟩) n pc)) rfl (by kernel_rfl) (by kernel_rfl) (by kernel_rfl) (fun _ _ _ h => h) (Or.inl ⟨by rfl, ?_⟩) hS ?_
        · intro W hSw
          obtain ⟨s0, s1⟩ := hSw
          go_simp
        dsimp only [List.getElem_toArray, List.getElem_cons_zero, List.getElem_cons_succ]
        simp only [Act.put, List.setIfInBounds_toArray, List.set_cons_zero, List.set_cons_succ]
        refine wpAnyH_take (i := 4) (v := (.int .i64 4)) rfl (by kernel_rfl) (by kernel_rfl) (by kernel_rfl) (fun _ _ _ h => h) (Or.inl ⟨by rfl, ?_⟩) hS ?_
        · intro W hSw
          obtain ⟨s0, s1⟩ := hSw
          go_simp
        dsimp only [List.getElem_toArray, List.getElem_cons_zero, List.getElem_cons_succ]
        simp only [Act.put, List.setIfInBounds_toArray, List.set_cons_zero, List.set_cons_succ]
        refine wpAnyH_take (i := 5) (v := (.pointer (some ⟨pb, 4, none⟩))) rfl (by kernel_rfl) (by kernel_rfl) (by kernel_rfl) (fun _ _ _ h => h) (Or.inl ⟨by rfl, ?_⟩) hS ?_
        · intro W hSw
          obtain ⟨s0, s1⟩ := hSw
          go_simp
        dsimp only [List.getElem_toArray, List.getElem_cons_zero, List.getElem_cons_succ]
        simp only [Act.put, List.setIfInBounds_toArray, List.set_cons_zero, List.set_cons_succ]
        refine wpAnyH_take (i := 6) (v := (.pointer (some ⟨rk, 0, none⟩))) rfl (by kernel_rfl) (by kernel_rfl) (by kernel_rfl) (fun _ _ _ h => h) (Or.inl ⟨by rfl, ?_⟩) hS ?_
        · intro W hSw
          obtain ⟨s0, s1⟩ := hSw
          go_simp
        dsimp only [List.getElem_toArray, List.getElem_cons_zero, List.getElem_cons_succ]
        simp only [Act.put, List.setIfInBounds_toArray, List.set_cons_zero, List.set_cons_succ]
        refine wpAnyH_take (i := 7) (v := (.int .i64 4)) rfl (by kernel_rfl) (by kernel_rfl) (by kernel_rfl) (fun _ _ _ h => h) (Or.inl ⟨by rfl, ?_⟩) hS ?_
        · intro W hSw
          obtain ⟨s0, s1⟩ := hSw
          go_simp
        dsimp only [List.getElem_toArray, List.getElem_cons_zero, List.getElem_cons_succ]
        simp only [Act.put, List.setIfInBounds_toArray, List.set_cons_zero, List.set_cons_succ]
        refine wpAnyH_take (i := 8) (v := (.int .i64 4)) rfl (by kernel_rfl) (by kernel_rfl) (by kernel_rfl) (fun _ _ _ h => h) (Or.inl ⟨by rfl, ?_⟩) hS ?_
        · intro W hSw
          obtain ⟨s0, s1⟩ := hSw
          go_simp
        dsimp only [List.getElem_toArray, List.getElem_cons_zero, List.getElem_cons_succ]
        simp only [Act.put, List.setIfInBounds_toArray, List.set_cons_zero, List.set_cons_succ]
        refine wpAnyH_take (i := 9) (v := (.int .i64 5)) rfl (by kernel_rfl) (by kernel_rfl) (by kernel_rfl) (fun _ _ _ h => h) (Or.inl ⟨by rfl, ?_⟩) hS ?_
        · intro W hSw
          obtain ⟨s0, s1⟩ := hSw
          go_simp
          all_goals kernel_rfl
        dsimp only [List.getElem_toArray, List.getElem_cons_zero, List.getElem_cons_succ]
        simp only [Act.put, List.setIfInBounds_toArray, List.set_cons_zero, List.set_cons_succ]
        refine wpAnyH_take (i := 10) (v := (.string ⟨#[101]⟩)) rfl (by kernel_rfl) (by kernel_rfl) (by kernel_rfl) (fun _ _ _ h => h) (Or.inl ⟨by rfl, ?_⟩) hS ?_
        · intro W hSw
          obtain ⟨s0, s1⟩ := hSw
          go_simp
          all_goals kernel_rfl
        dsimp only [List.getElem_toArray, List.getElem_cons_zero, List.getElem_cons_succ]
        simp only [Act.put, List.setIfInBounds_toArray, List.set_cons_zero, List.set_cons_succ]
        refine wpAnyH_take (i := 11) (v := (.string ⟨#[110, 111, 116, 101, 32, 101]⟩)) rfl (by kernel_rfl) (by kernel_rfl) (by kernel_rfl) (fun _ _ _ h => h) (Or.inl ⟨by rfl, ?_⟩) hS ?_
        · intro W hSw
          obtain ⟨s0, s1⟩ := hSw
          go_simp
          all_goals kernel_rfl
        dsimp only [List.getElem_toArray, List.getElem_cons_zero, List.getElem_cons_succ]
        simp only [Act.put, List.setIfInBounds_toArray, List.set_cons_zero, List.set_cons_succ]
        refine wpAnyH_ready (rs := [12]) (by kernel_rfl) (by simp) ?_
        refine AllReadyH.cons rfl (fun K hK => ?_) AllReadyH.nil
        rw [if_pos (by rfl)]
        dsimp only [List.getElem_toArray, List.getElem_cons_zero, List.getElem_cons_succ]
        go_simp
        refine (HDO.out ⟨#[110, 111, 116, 101, 32, 101]⟩ (by decide +kernel) (by kernel_rfl)).mono ?_
        rintro e w4 ⟨rfl, hS4, S', HN4⟩
        refine hK.out _ _ hS4 (fun _ => ?_)
        clear hK K
        try simp only [Act.put, List.setIfInBounds_toArray, List.set_cons_zero, List.set_cons_succ]
        refine wpAnyH_ready (rs := [13]) (by kernel_rfl) (by simp) ?_
        refine AllReadyH.cons rfl (fun K hK => ?_) AllReadyH.nil
        rw [if_pos (by rfl)]
        dsimp only [List.getElem_toArray, List.getElem_cons_zero, List.getElem_cons_succ]
        go_simp
        refine hK.out _ _ hS4 (fun _ => ?_)
        clear hK K
        try simp only [Act.put, List.setIfInBounds_toArray, List.set_cons_zero, List.set_cons_succ]
        refine wpAnyH_done (by kernel_rfl) ?_ _
        clear hS hS4 c0 cp HDO
        go_wp2
        go_roundw
        case rel => exact ⟨5, S', by omega, by rfl, by rw [HWS.out]; kernel_rfl, HN4⟩
        case measure => simp [intOf]; omega
    · obtain rfl : n = k := by omega
      have hN := HI.out.1
      have HR1 : Hid (Calls Tryz.prog 21 #[.pointer (some ⟨gb, 0, none⟩), .int .i64 62, .bool bw, .bool false] wr fun e w' => e = .returned (.bool true) ∧ ∃ S2, Hid (Noted n S S2 ∧ GrpR W n 10 1000 gb pb pc rbs S2 w')) := note_rounds HI.out.2.2 HG.out hN bw
      have HA1 : Hid (∀ S2 w3, Noted n S S2 ∧ GrpR W n 10 1000 gb pb pc rbs S2 w3 → Calls Tryz.prog 22 #[.pointer (some ⟨gb, 0, none⟩), .int .i64 (n : Int)] w3 fun e w' => e = .returned (.bool true) ∧ w'.cell? ⟨gb, 0, none⟩ = some (.slice (some ⟨pb, 0, none⟩) n pc) ∧ w'.cell? ⟨pb, 0, none⟩ = some (.pointer (some ⟨rbs 0, 0, none⟩)) ∧ Hid (Noted n S S2 ∧ GrpR W n 10 1000 gb pb pc rbs S2 w')) := fun S2 w3 h => by
        refine (note_alike h.2 HG.out h.1).mono ?_
        rintro e w' ⟨he, hg'⟩
        exact ⟨he, hg'.c0, hg'.ptr (by omega), h.1, hg'⟩
      have HV1 : Hid (∀ S2 w3, Noted n S S2 ∧ GrpR W n 10 1000 gb pb pc rbs S2 w3 → Calls Tryz.prog 23 #[.pointer (some ⟨rbs 0, 0, none⟩)] w3 fun e w' => e = .returned (.string (wantB n)) ∧ w'.cell? ⟨gb, 0, none⟩ = some (.slice (some ⟨pb, 0, none⟩) n pc) ∧ w'.cell? ⟨pb, n - 1, none⟩ = some (.pointer (some ⟨rbs (n - 1), 0, none⟩)) ∧ Hid (Noted n S S2 ∧ GrpR W n 10 1000 gb pb pc rbs S2 w')) := fun S2 w3 h => by
        refine (h.2.view HG.out (i := 0) (by omega) (h.1.text hn5 (by omega))).mono ?_
        rintro e w' ⟨he, hg'⟩
        exact ⟨he, hg'.c0, hg'.ptr (by omega), h.1, hg'⟩
      have HD1 : Hid (∀ S2 w3, Noted n S S2 ∧ GrpR W n 10 1000 gb pb pc rbs S2 w3 → Calls Tryz.prog 20 #[.pointer (some ⟨rbs (n - 1), 0, none⟩), .string ⟨#[110, 111, 116, 101, 32, 122]⟩] w3 fun e w' => e = .returned (.int .i64 0) ∧ ∃ z, Hid (Noted n S S2 ∧ z.c = noteZ ∧ z.org = n - 1 ∧ z.seq = cntL (S2 (n - 1)).log (n - 1) + 1 ∧ z.ah = reachOf (S2 (n - 1)).log ∧ GrpR W n 10 1000 gb pb pc rbs (updS S2 (n - 1) (doS n (n - 1) (S2 (n - 1)) z)) w')) := fun S2 w3 h => by
        refine (note_z h.2 HG.out h.1 (m := n - 1) (by omega)).mono ?_
        rintro e w' ⟨he, z, q1, q2, q3, q4, q5⟩
        exact ⟨he, z, h.1, q1, q2, q3, q4, q5⟩
      have HR2 : Hid (∀ S2 z w3, (Noted n S S2 ∧ z.c = noteZ ∧ z.org = n - 1 ∧ z.seq = cntL (S2 (n - 1)).log (n - 1) + 1 ∧ z.ah = reachOf (S2 (n - 1)).log ∧ GrpR W n 10 1000 gb pb pc rbs (updS S2 (n - 1) (doS n (n - 1) (S2 (n - 1)) z)) w3) → Calls Tryz.prog 21 #[.pointer (some ⟨gb, 0, none⟩), .int .i64 62, .bool bw, .bool false] w3 fun e w' => e = .returned (.bool true) ∧ ∃ S4, Hid ((∀ i, i < n → (S4 i).log.length = n + 1) ∧ (∀ i, i < n → cartG (S4 i).log (S4 i).log = cartG (S4 0).log (S4 0).log) ∧ TextIs (cartG (S4 0).log (S4 0).log) ⟨#[110, 111, 116, 101, 32, 122, 10]⟩ ∧ GrpR W n 10 1000 gb pb pc rbs S4 w')) := fun S2 z w3 h => note_rounds2 (m := n - 1) (by omega) h.2.1 h.2.2.1 h.2.2.2.1 h.2.2.2.2.1 h.2.2.2.2.2 HG.out h.1 bw
      have HA2 : Hid (∀ S4 w3, ((∀ i, i < n → (S4 i).log.length = n + 1) ∧ (∀ i, i < n → cartG (S4 i).log (S4 i).log = cartG (S4 0).log (S4 0).log) ∧ TextIs (cartG (S4 0).log (S4 0).log) ⟨#[110, 111, 116, 101, 32, 122, 10]⟩ ∧ GrpR W n 10 1000 gb pb pc rbs S4 w3) → Calls Tryz.prog 22 #[.pointer (some ⟨gb, 0, none⟩), .int .i64 ((n : Int) + 1)] w3 fun e w' => e = .returned (.bool true) ∧ w'.cell? ⟨gb, 0, none⟩ = some (.slice (some ⟨pb, 0, none⟩) n pc) ∧ w'.cell? ⟨pb, 0, none⟩ = some (.pointer (some ⟨rbs 0, 0, none⟩)) ∧ Hid (TextIs (cartG (S4 0).log (S4 0).log) ⟨#[110, 111, 116, 101, 32, 122, 10]⟩ ∧ GrpR W n 10 1000 gb pb pc rbs S4 w')) := fun S4 w3 h => by
        have ha := h.2.2.2.alike HG.out (n + 1) h.1 _ h.2.1
        have e : ((n + 1 : Nat) : Int) = (n : Int) + 1 := by omega
        rw [e] at ha
        refine ha.mono ?_
        rintro e w' ⟨he, hg'⟩
        exact ⟨he, hg'.c0, hg'.ptr (by omega), h.2.2.1, hg'⟩
      have HV2 : Hid (∀ S4 w3, (TextIs (cartG (S4 0).log (S4 0).log) ⟨#[110, 111, 116, 101, 32, 122, 10]⟩ ∧ GrpR W n 10 1000 gb pb pc rbs S4 w3) → Calls Tryz.prog 23 #[.pointer (some ⟨rbs 0, 0, none⟩)] w3 fun e w' => e = .returned (.string ⟨#[110, 111, 116, 101, 32, 122, 10]⟩) ∧ Hid (Below W.heap.size W w')) := fun S4 w3 h => by
        refine (h.2.view HG.out (i := 0) (by omega) h.1).mono ?_
        rintro e w' ⟨he, hg'⟩
        exact ⟨he, hg'.old⟩
      have hid : (n : Int) - 1 = ((n - 1 : Nat) : Int) := by omega
      have hid0 : (0 : Int) ≤ ((n - 1 : Nat) : Int) := by omega
      have hid1 : ((n - 1 : Nat) : Int) < (n : Int) := by omega
      have hn0 : (0 : Int) < (n : Int) := by omega
      clear HI hN c0
      generalize rbs 0 = r0 at *
      generalize rbs (n - 1) = rm at *
      generalize wantB n = wb at *
      go_wp2_with (first
        | (go_at_call 21; refine (HR2.out _ _ _ HZ.out).mono ?_; rintro e w7 ⟨rfl, S4, H7⟩)
        | (go_at_call 21; refine HR1.out.mono ?_; rintro e w3 ⟨rfl, S2, H3⟩)
        | (go_at_call 22; refine (HA2.out _ _ H7.out).mono ?_; rintro e w8 ⟨rfl, g0, g1, H8⟩)
        | (go_at_call 22; refine (HA1.out _ _ H3.out).mono ?_; rintro e w4 ⟨rfl, a0, a1, H4⟩)
        | (go_at_call 23; refine (HV2.out _ _ H8.out).mono ?_; rintro e w9 ⟨rfl, H9⟩)
        | (go_at_call 23; refine (HV1.out _ _ H4.out).mono ?_; rintro e w5 ⟨rfl, b0, b1, H5⟩)
        | (go_at_call 20; refine (HD1.out _ _ H5.out).mono ?_; rintro e w6 ⟨rfl, z, HZ⟩))
      go_ret
      exact ⟨rfl, H9.out⟩

end Go.Proofs.YtckmppkdpnhodaaGreatDoor
