/-
  (*group).rounds.
-/
import Derived.Test.YtckmppkdpnhodaaGreatDoorT35
namespace Go.Proofs.YtckmppkdpnhodaaGreatDoor
set_option linter.unusedVariables false
set_option linter.unusedSimpArgs false
open Go.RowKit Go.Proofs

attribute [local go_sem ↓] Go.wp_at_zero Go.wp_at_succ

/-- A frame on its way comes. -/
theorem fly_come {w0 W0 : World} {n LB NB : Nat} {d0 : Side} {gb pb pc : Nat} {S : Nat → Sr} {d : Side} {v : Value} {fl : List (Nat × Nat × Value × List UInt8)} {W : World} (h : FlyI w0 W0 n LB NB d0 gb pb pc S d v fl W) (hg : Glob w0) {k : Nat} (hk : k < fl.length) {L : Lt} (hR : FlyR fl[k] L) (hL : LtOk n S L) {W' : World} (hb : Below W.heap.size W W') {p : Option Addr} {c : Nat} (hv : fl[k].2.2.1 = .slice p fl[k].2.2.2.length c) :
    Calls Tryz.prog 27 #[.pointer (some ⟨gb, 0, none⟩), .agg #[.int .i64 (fl[k].1 : Int), .int .i64 (fl[k].2.1 : Int), .slice p fl[k].2.2.2.length c]] W' fun e w' => e = .returned (.bool true) ∧ ∃ d', FlyI w0 W0 n LB NB d0 gb pb pc (updS S L.dst (takeS (S L.dst) L)) d' v fl w' ∧ StepM n W' d w' d' := by
  have hm : fl[k] ∈ fl := List.getElem_mem hk
  have he := h.air.each _ hm
  have hok := ((okB_iff _).1 hR.2.2.ok).1
  obtain ⟨g, cap, hf, -, hgl⟩ := he.form (by omega)
  rw [hv] at hf
  simp only [Value.slice.injEq, true_and] at hf
  obtain ⟨rfl, rfl⟩ := hf
  have hby := bytes_of_own he
  rw [hv] at hby
  have hcc : fl[k].2.2.2.length ≤ c ∧ c ≤ 9223372036854775807 := by
    rcases he.2 with ⟨h1, -⟩ | ⟨g', c', cur, h1, -, -, h2, h3, -⟩
    · rw [hv] at h1; simp at h1
    · rw [hv] at h1
      simp at h1
      obtain ⟨-, rfl⟩ := h1
      unfold maxLen at h3
      exact ⟨h2, by omega⟩
  rw [hR.1, hR.2.1]
  refine (comeG (h.grp.below hb) hg hL hR.2.2 hcc.1 hcc.2 (Nat.lt_of_lt_of_le hgl hb.size) (h.air.efar _ hm g (by rw [hv]; rfl)) (bytes_below hby hb)).mono ?_
  rintro e w' ⟨rfl, d', hg', hst⟩
  exact ⟨rfl, d', ⟨hg', (h.air.below hb).step hst, (h.step.trans (StepM.below hb d)).trans hst⟩, hst⟩

set_option maxRecDepth 100000 in
set_option maxHeartbeats 8000000 in
theorem roundsG {w0 W : World} {n LB NB : Nat} {S : Nat → Sr} {d : Side} {gb pb pc : Nat} (h : Grp w0 n LB NB S d gb pb pc W) (hg : Glob w0) (r : Nat) (hr : r ≤ 1000) (hnow : ∀ i, i < n → (S i).now + r ≤ NB) (bw tw : Bool) :
    Calls Tryz.prog 21 #[.pointer (some ⟨gb, 0, none⟩), .int .i64 (r : Int), .bool bw, .bool tw] W fun e w' => e = .returned (.bool true) ∧ ∃ S' d', Rnds n r S S' ∧ Grp w0 n LB NB S' d' gb pb pc w' ∧ StepM n W d w' d' ∧ ∀ i, i < n → (S' i).now = (S i).now + r := by
  have hn5 := h.net.fit.n5.2
  have HG : Hid (Glob w0) := hg
  have HNW : Hid (∀ i, i < n → (S i).now + r ≤ NB) := hnow
  have HST : Hid (Rnds n 0 S S ∧ Grp w0 n LB NB S d gb pb pc W ∧ StepM n W d W d ∧ ∀ i, i < n → (S i).now = (S i).now + 0) := ⟨rfl, h, StepM.refl _ _ _, fun _ _ => rfl⟩
  clear h hg hnow
  go_enter Tryz.func21, Tryz.ntmps21
  go_wp2
  go_loopw [9] (fun v wr => ∃ (k : Nat) (S1 : Nat → Sr) (d1 : Side), k ≤ r ∧ v = .int .i64 (k : Int) ∧ Hid (Rnds n k S S1 ∧ Grp w0 n LB NB S1 d1 gb pb pc wr ∧ StepM n W d wr d1 ∧ ∀ i, i < n → (S1 i).now = (S i).now + k)) (fun v _ => r - (intOf v).toNat)
  case atStart => exact ⟨0, S, d, by omega, rfl, HST⟩
  case round =>
    obtain ⟨k, S1, d1, hk, rfl, HI⟩ := hrel
    by_cases hlt : k < r
    · have hki : (k : Int) < (r : Int) := by omega
      have HT0 : Hid (Grp w0 n LB NB (tickTo S1 0) d1 gb pb pc wr ∧ StepM n W d wr d1) := by
        have e : tickTo S1 0 = S1 := by funext i; simp [tickTo]
        exact ⟨by rw [e]; exact HI.out.2.1, HI.out.2.2.1⟩
      go_wp2
      go_loopw [10] (fun v wr => ∃ (j : Nat) (d2 : Side), j ≤ n ∧ v = .int .i64 (j : Int) ∧ Hid (Grp w0 n LB NB (tickTo S1 j) d2 gb pb pc wr ∧ StepM n W d wr d2)) (fun v _ => n - (intOf v).toNat)
      case atStart => exact ⟨0, d1, by omega, rfl, HT0⟩
      case round =>
        obtain ⟨j, d2, hj, rfl, HJ⟩ := hrel
        have c0 := HJ.out.1.c0
        by_cases hjl : j < n
        · have cp := HJ.out.1.ptr j hjl
          have hji : (j : Int) < (n : Int) := by omega
          have HTK : Hid (Calls Tryz.prog 25 #[.pointer (some ⟨d2.rb j, 0, none⟩)] wr fun e w' => e = .returned (.tuple #[]) ∧ ∃ d3, Hid (Grp w0 n LB NB (tickTo S1 (j + 1)) d3 gb pb pc w' ∧ StepM n W d w' d3)) := by
            have hnj : (tickTo S1 j j).now < NB := by
              have e : tickTo S1 j j = S1 j := by simp [tickTo]
              rw [e, HI.out.2.2.2 j hjl]
              have := HNW.out j hjl
              omega
            refine (tickN HJ.out.1.net hjl hnj).mono ?_
            rintro e w' ⟨he, d3, q1, q2⟩
            exact ⟨he, d3, by rw [tickTo_succ]; exact HJ.out.1.step q1 q2, HJ.out.2.trans q2⟩
          generalize d2.rb j = rbj at *
          clear HJ
          go_wp2_with (go_at_call 25; refine HTK.out.mono ?_; rintro e w2 ⟨rfl, d3, H3⟩)
          go_roundw
          case rel =>
            have R : j + 1 ≤ n ∧ Value.int .i64 ((j : Int) + 1) = .int .i64 ((j + 1 : Nat) : Int) ∧ _ := ⟨by omega, by go_num, H3⟩
            first
              | exact ⟨j + 1, d3, R⟩
              | ((repeat apply Exists.intro); exact ⟨⟨j + 1, d3, R⟩, rfl⟩)
          case measure => simp [intOf]; omega
        · obtain rfl : j = n := by omega
          have HFR : Hid (Calls Tryz.prog 26 #[.pointer (some ⟨gb, 0, none⟩)] wr fun e w' => ∃ p c fl Ls S3 d3, e = .returned (.slice p fl.length c) ∧ fl.length ≤ 325 ∧ Hid (FlyI w0 W j LB NB d gb pb pc S3 d3 (.slice p fl.length c) fl w' ∧ Telling j j (tickTo S1 j) S3 Ls ∧ Both FlyR fl Ls)) := by
            refine (gframesG HJ.out.1 HG.out).mono ?_
            rintro e w' ⟨v, fl, Ls, S3, d3, rfl, q1, q2, q3, q4⟩
            obtain ⟨p, c, rfl⟩ := own_form q1.air.row
            have hsz := HJ.out.2.size
            refine ⟨p, c, fl, Ls, S3, d3, rfl, q4, ⟨q1.grp, ⟨owns_base q1.air.row hsz, fun o ho => owns_base (q1.air.each o ho) hsz, q1.air.far, q1.air.efar⟩, HJ.out.2.trans q1.step⟩, q2, q3⟩
          clear HJ
          go_wp2_with (go_at_call 26; refine HFR.out.mono ?_; rintro e w2 ⟨pf, cf, fl, Ls, S3, d3, rfl, hfl, HF⟩)
          go_loopw [12] (fun v wr => ∃ (q : Nat) (d4 : Side), q ≤ fl.length ∧ v = .int .i64 (q : Int) ∧ Hid (FlyI w0 W j LB NB d gb pb pc (deliver S3 (delD bw tw Ls q)) d4 (.slice pf fl.length cf) fl wr)) (fun v _ => fl.length - (intOf v).toNat)
          case atStart => exact ⟨0, d3, by omega, rfl, HF.out.1⟩
          case round =>
            obtain ⟨q, d4, hq, rfl, HQ⟩ := hrel
            by_cases hql : q < fl.length
            · obtain ⟨gf, cff, hgf, -, hgl⟩ := HQ.out.air.row.form (by omega)
              simp only [Value.slice.injEq, true_and] at hgf
              obtain ⟨rfl, rfl⟩ := hgf
              have hqs : (q : Int) < (fl.length : Int) := by omega
              cases bw with
              | false =>
                have hol : q < fl.length := by omega
                have hLs : q < Ls.length := by rw [← HF.out.2.2.len]; exact hol
                obtain ⟨po, co, hvo⟩ := own_form (HQ.out.air.each fl[q] (List.getElem_mem hol))
                have HLT : Hid (FlyR fl[q] Ls[q] ∧ LtOk j (deliver S3 (delD false tw Ls q)) Ls[q]) := by
                  have hn1 := HI.out.2.1.net.ok
                  have hn2 : NetOk j (tickTo S1 j) := hn1.tick.congr fun i hi => by simp [tickTo, hi]
                  have ht := (HF.out.2.1.lt hn2 (Nat.le_refl _) _ (List.getElem_mem hLs)).1
                  obtain ⟨hn3, hl3⟩ := HF.out.2.1.net hn2
                  have ht3 : LtOk j S3 Ls[q] := hn2.lt (fun i hi => ⟨[], by rw [hl3 i hi]; simp⟩) ht
                  exact ⟨HF.out.2.2.get hol hLs, hn3.lt (fun i _ => deliver_grow i _ S3) ht3⟩
                have HDS : Hid (delD false tw Ls (q + 1) = delD false tw Ls q ++ if tw then [Ls[q], Ls[q]] else [Ls[q]]) := delD_succ (by
                  have e : ordK false Ls.length q = q := by rw [← HF.out.2.2.len]; rfl
                  rw [e]; exact List.getElem?_eq_getElem hLs)
                have HC1 : Hid (∀ W', Below wr.heap.size wr W' → Calls Tryz.prog 27 #[.pointer (some ⟨gb, 0, none⟩), .agg #[.int .i64 (fl[q].1 : Int), .int .i64 (fl[q].2.1 : Int), .slice po fl[q].2.2.2.length co]] W' fun e w' => e = .returned (.bool true) ∧ (∀ b C T, wr.heap.size ≤ b → W'.heap[b]? = some (.cells C T (0, 0)) → w'.heap[b]? = some (.cells C T (0, 0))) ∧ ∃ d5, Hid (FlyI w0 W j LB NB d gb pb pc (deliver S3 (delD false tw Ls q ++ [Ls[q]])) d5 (.slice (some ⟨gf, 0, none⟩) fl.length cf) fl w')) := fun W' hW' => by
                  refine (fly_come HQ.out HG.out hol HLT.out.1 HLT.out.2 hW' hvo).mono ?_
                  rintro e w' ⟨he, d5, q1, q2⟩
                  exact ⟨he, fun b C T hb hc => (q2.block b (Array.getElem?_eq_some_iff.1 hc).1 (HQ.out.grp.net.m.new hb)).trans hc, d5, by rw [deliver_append]; exact q1⟩
                have HC2 : Hid (∀ W' d5, FlyI w0 W j LB NB d gb pb pc (deliver S3 (delD false tw Ls q ++ [Ls[q]])) d5 (.slice (some ⟨gf, 0, none⟩) fl.length cf) fl W' → Calls Tryz.prog 27 #[.pointer (some ⟨gb, 0, none⟩), .agg #[.int .i64 (fl[q].1 : Int), .int .i64 (fl[q].2.1 : Int), .slice po fl[q].2.2.2.length co]] W' fun e w' => e = .returned (.bool true) ∧ ∃ d6, Hid (FlyI w0 W j LB NB d gb pb pc (deliver S3 (delD false tw Ls q ++ [Ls[q], Ls[q]])) d6 (.slice (some ⟨gf, 0, none⟩) fl.length cf) fl w')) := fun W' d5 hF5 => by
                  have hL2 : LtOk j (deliver S3 (delD false tw Ls q ++ [Ls[q]])) Ls[q] := HQ.out.grp.net.ok.lt (fun i _ => by rw [deliver_append]; exact deliver_grow i _ _) HLT.out.2
                  refine (fly_come hF5 HG.out hol HLT.out.1 hL2 (Below.refl _ W') hvo).mono ?_
                  rintro e w' ⟨he, d6, q1, -⟩
                  refine ⟨he, d6, ?_⟩
                  have e : delD false tw Ls q ++ [Ls[q], Ls[q]] = (delD false tw Ls q ++ [Ls[q]]) ++ [Ls[q]] := by simp
                  rw [e, deliver_append]
                  exact q1
                have x0 : wr.cell? ⟨gf, (q) * 3, none⟩ = some (.int .i64 (fl[q].1 : Int)) := by
                  have := HQ.out.air.row.cells (g := gf) rfl ((q) * 3) _ (airCells_get fl hol).1
                  rwa [Addr.add_mid, Nat.zero_add] at this
                have x1 : wr.cell? ⟨gf, (q) * 3 + 1, none⟩ = some (.int .i64 (fl[q].2.1 : Int)) := by
                  have := HQ.out.air.row.cells (g := gf) rfl ((q) * 3 + 1) _ (airCells_get fl hol).2.1
                  rwa [Addr.add_mid, Nat.zero_add] at this
                have x2 : wr.cell? ⟨gf, (q) * 3 + 2, none⟩ = some (.slice po fl[q].2.2.2.length co) := by
                  have := HQ.out.air.row.cells (g := gf) rfl ((q) * 3 + 2) _ (airCells_get fl hol).2.2
                  rwa [Addr.add_mid, Nat.zero_add, hvo] at this
                clear HQ hvo
                generalize fl[q].1 = foB at *
                generalize fl[q].2.1 = toB at *
                generalize fl[q].2.2.2.length = noB at *
                go_upto_region 13 with fail
                obtain ⟨w3, hw3⟩ : ∃ w3, wr.alloc (.cells #[.int .i64 (foB : Int), .int .i64 (toB : Int), .slice po noB co] 59) = w3 := ⟨_, rfl⟩
                have hsb : w3.heap[wr.heap.size]? = some (.cells #[.int .i64 (foB : Int), .int .i64 (toB : Int), .slice po noB co] 59 (0, 0)) := by rw [← hw3]; exact heap_alloc_new wr _
                have hb3 : Below wr.heap.size wr w3 := by rw [← hw3]; exact (Below.refl _ wr).alloc (Nat.le_refl _) _
                rw [hw3]
                clear hw3 x0 x1 x2
                have t0 : w3.cell? ⟨wr.heap.size, 0, none⟩ = some (.int .i64 (foB : Int)) := by rw [cell_of_heap hsb]; rfl
                have t1 : w3.cell? ⟨wr.heap.size, 1, none⟩ = some (.int .i64 (toB : Int)) := by rw [cell_of_heap hsb]; rfl
                have t2 : w3.cell? ⟨wr.heap.size, 2, none⟩ = some (.slice po noB co) := by rw [cell_of_heap hsb]; rfl
                cases tw with
                | false =>
                  have HS : Hid (∀ d5 W', FlyI w0 W j LB NB d gb pb pc (deliver S3 (delD false false Ls q ++ [Ls[q]])) d5 (.slice (some ⟨gf, 0, none⟩) fl.length cf) fl W' → Hid (FlyI w0 W j LB NB d gb pb pc (deliver S3 (delD false false Ls (q + 1))) d5 (.slice (some ⟨gf, 0, none⟩) fl.length cf) fl W')) := fun d5 W' hh => by
                    show FlyI _ _ _ _ _ _ _ _ _ _ _ _ _ _
                    rw [HDS.out]; exact hh
                  clear HC2
                  go_wp2_with (go_at_call 27; refine (HC1.out _ hb3).mono ?_; rintro e w5 ⟨rfl, -, d5, H5⟩)
                  go_roundw
                  case rel =>
                    have R : q + 1 ≤ fl.length ∧ Value.int .i64 ((q : Int) + 1) = .int .i64 ((q + 1 : Nat) : Int) ∧ _ := ⟨by omega, by go_num, HS.out d5 _ H5.out⟩
                    first
                      | exact ⟨q + 1, d5, R⟩
                      | ((repeat apply Exists.intro); exact ⟨⟨q + 1, d5, R⟩, rfl⟩)
                  case measure => simp [intOf]; omega
                | true =>
                  have HS : Hid (∀ d5 W', FlyI w0 W j LB NB d gb pb pc (deliver S3 (delD false true Ls q ++ [Ls[q], Ls[q]])) d5 (.slice (some ⟨gf, 0, none⟩) fl.length cf) fl W' → Hid (FlyI w0 W j LB NB d gb pb pc (deliver S3 (delD false true Ls (q + 1))) d5 (.slice (some ⟨gf, 0, none⟩) fl.length cf) fl W')) := fun d5 W' hh => by
                    show FlyI _ _ _ _ _ _ _ _ _ _ _ _ _ _
                    rw [HDS.out]; exact hh
                  go_wp2_with (first
                    | (go_at_call 27; refine (HC2.out w5 d5 H5.out).mono ?_; rintro e w6 ⟨rfl, d6, H6⟩)
                    | (go_at_call 27; refine (HC1.out _ hb3).mono ?_; rintro e w5 ⟨rfl, hk5, d5, H5⟩; have hs5 := hk5 _ _ _ (Nat.le_refl _) hsb; have v0 : w5.cell? ⟨wr.heap.size, 0, none⟩ = some (.int .i64 (foB : Int)) := (by rw [cell_of_heap hs5]; rfl); have v1 : w5.cell? ⟨wr.heap.size, 1, none⟩ = some (.int .i64 (toB : Int)) := (by rw [cell_of_heap hs5]; rfl); have v2 : w5.cell? ⟨wr.heap.size, 2, none⟩ = some (.slice po noB co) := (by rw [cell_of_heap hs5]; rfl); clear hs5 hk5))
                  go_roundw
                  case rel =>
                    have R : q + 1 ≤ fl.length ∧ Value.int .i64 ((q : Int) + 1) = .int .i64 ((q + 1 : Nat) : Int) ∧ _ := ⟨by omega, by go_num, HS.out d6 _ H6.out⟩
                    first
                      | exact ⟨q + 1, d6, R⟩
                      | ((repeat apply Exists.intro); exact ⟨⟨q + 1, d6, R⟩, rfl⟩)
                  case measure => simp [intOf]; omega
              | true =>
                have holq := hql
                obtain ⟨pq, cq, hvq⟩ := own_form (HQ.out.air.each fl[q] (List.getElem_mem hql))
                have x0 : wr.cell? ⟨gf, (q) * 3, none⟩ = some (.int .i64 (fl[q].1 : Int)) := by
                  have := HQ.out.air.row.cells (g := gf) rfl ((q) * 3) _ (airCells_get fl hql).1
                  rwa [Addr.add_mid, Nat.zero_add] at this
                have x1 : wr.cell? ⟨gf, (q) * 3 + 1, none⟩ = some (.int .i64 (fl[q].2.1 : Int)) := by
                  have := HQ.out.air.row.cells (g := gf) rfl ((q) * 3 + 1) _ (airCells_get fl hql).2.1
                  rwa [Addr.add_mid, Nat.zero_add] at this
                have x2 : wr.cell? ⟨gf, (q) * 3 + 2, none⟩ = some (.slice pq fl[q].2.2.2.length cq) := by
                  have := HQ.out.air.row.cells (g := gf) rfl ((q) * 3 + 2) _ (airCells_get fl hql).2.2
                  rwa [Addr.add_mid, Nat.zero_add, hvq] at this
                have hol : fl.length - 1 - q < fl.length := by omega
                have hLs : fl.length - 1 - q < Ls.length := by rw [← HF.out.2.2.len]; exact hol
                obtain ⟨po, co, hvo⟩ := own_form (HQ.out.air.each fl[fl.length - 1 - q] (List.getElem_mem hol))
                have HLT : Hid (FlyR fl[fl.length - 1 - q] Ls[fl.length - 1 - q] ∧ LtOk j (deliver S3 (delD true tw Ls q)) Ls[fl.length - 1 - q]) := by
                  have hn1 := HI.out.2.1.net.ok
                  have hn2 : NetOk j (tickTo S1 j) := hn1.tick.congr fun i hi => by simp [tickTo, hi]
                  have ht := (HF.out.2.1.lt hn2 (Nat.le_refl _) _ (List.getElem_mem hLs)).1
                  obtain ⟨hn3, hl3⟩ := HF.out.2.1.net hn2
                  have ht3 : LtOk j S3 Ls[fl.length - 1 - q] := hn2.lt (fun i hi => ⟨[], by rw [hl3 i hi]; simp⟩) ht
                  exact ⟨HF.out.2.2.get hol hLs, hn3.lt (fun i _ => deliver_grow i _ S3) ht3⟩
                have HDS : Hid (delD true tw Ls (q + 1) = delD true tw Ls q ++ if tw then [Ls[fl.length - 1 - q], Ls[fl.length - 1 - q]] else [Ls[fl.length - 1 - q]]) := delD_succ (by
                  have e : ordK true Ls.length q = fl.length - 1 - q := by rw [← HF.out.2.2.len]; rfl
                  rw [e]; exact List.getElem?_eq_getElem hLs)
                have HC1 : Hid (∀ W', Below wr.heap.size wr W' → Calls Tryz.prog 27 #[.pointer (some ⟨gb, 0, none⟩), .agg #[.int .i64 (fl[fl.length - 1 - q].1 : Int), .int .i64 (fl[fl.length - 1 - q].2.1 : Int), .slice po fl[fl.length - 1 - q].2.2.2.length co]] W' fun e w' => e = .returned (.bool true) ∧ (∀ b C T, wr.heap.size ≤ b → W'.heap[b]? = some (.cells C T (0, 0)) → w'.heap[b]? = some (.cells C T (0, 0))) ∧ ∃ d5, Hid (FlyI w0 W j LB NB d gb pb pc (deliver S3 (delD true tw Ls q ++ [Ls[fl.length - 1 - q]])) d5 (.slice (some ⟨gf, 0, none⟩) fl.length cf) fl w')) := fun W' hW' => by
                  refine (fly_come HQ.out HG.out hol HLT.out.1 HLT.out.2 hW' hvo).mono ?_
                  rintro e w' ⟨he, d5, q1, q2⟩
                  exact ⟨he, fun b C T hb hc => (q2.block b (Array.getElem?_eq_some_iff.1 hc).1 (HQ.out.grp.net.m.new hb)).trans hc, d5, by rw [deliver_append]; exact q1⟩
                have HC2 : Hid (∀ W' d5, FlyI w0 W j LB NB d gb pb pc (deliver S3 (delD true tw Ls q ++ [Ls[fl.length - 1 - q]])) d5 (.slice (some ⟨gf, 0, none⟩) fl.length cf) fl W' → Calls Tryz.prog 27 #[.pointer (some ⟨gb, 0, none⟩), .agg #[.int .i64 (fl[fl.length - 1 - q].1 : Int), .int .i64 (fl[fl.length - 1 - q].2.1 : Int), .slice po fl[fl.length - 1 - q].2.2.2.length co]] W' fun e w' => e = .returned (.bool true) ∧ ∃ d6, Hid (FlyI w0 W j LB NB d gb pb pc (deliver S3 (delD true tw Ls q ++ [Ls[fl.length - 1 - q], Ls[fl.length - 1 - q]])) d6 (.slice (some ⟨gf, 0, none⟩) fl.length cf) fl w')) := fun W' d5 hF5 => by
                  have hL2 : LtOk j (deliver S3 (delD true tw Ls q ++ [Ls[fl.length - 1 - q]])) Ls[fl.length - 1 - q] := HQ.out.grp.net.ok.lt (fun i _ => by rw [deliver_append]; exact deliver_grow i _ _) HLT.out.2
                  refine (fly_come hF5 HG.out hol HLT.out.1 hL2 (Below.refl _ W') hvo).mono ?_
                  rintro e w' ⟨he, d6, q1, -⟩
                  refine ⟨he, d6, ?_⟩
                  have e : delD true tw Ls q ++ [Ls[fl.length - 1 - q], Ls[fl.length - 1 - q]] = (delD true tw Ls q ++ [Ls[fl.length - 1 - q]]) ++ [Ls[fl.length - 1 - q]] := by simp
                  rw [e, deliver_append]
                  exact q1
                have y0 : wr.cell? ⟨gf, (fl.length - 1 - q) * 3, none⟩ = some (.int .i64 (fl[fl.length - 1 - q].1 : Int)) := by
                  have := HQ.out.air.row.cells (g := gf) rfl ((fl.length - 1 - q) * 3) _ (airCells_get fl hol).1
                  rwa [Addr.add_mid, Nat.zero_add] at this
                have y1 : wr.cell? ⟨gf, (fl.length - 1 - q) * 3 + 1, none⟩ = some (.int .i64 (fl[fl.length - 1 - q].2.1 : Int)) := by
                  have := HQ.out.air.row.cells (g := gf) rfl ((fl.length - 1 - q) * 3 + 1) _ (airCells_get fl hol).2.1
                  rwa [Addr.add_mid, Nat.zero_add] at this
                have y2 : wr.cell? ⟨gf, (fl.length - 1 - q) * 3 + 2, none⟩ = some (.slice po fl[fl.length - 1 - q].2.2.2.length co) := by
                  have := HQ.out.air.row.cells (g := gf) rfl ((fl.length - 1 - q) * 3 + 2) _ (airCells_get fl hol).2.2
                  rwa [Addr.add_mid, Nat.zero_add, hvo] at this
                clear HQ hvo hvq
                generalize fl[fl.length - 1 - q].1 = foB at *
                generalize fl[fl.length - 1 - q].2.1 = toB at *
                generalize fl[fl.length - 1 - q].2.2.2.length = noB at *
                generalize fl[q].1 = foA at *
                generalize fl[q].2.1 = toA at *
                generalize fl[q].2.2.2.length = noA at *
                have hidx : (fl.length : Int) - 1 - (q : Int) = ((fl.length - 1 - q : Nat) : Int) := by omega
                have hid0 : (0 : Int) ≤ ((fl.length - 1 - q : Nat) : Int) := by omega
                have hid1 : ((fl.length - 1 - q : Nat) : Int) < (fl.length : Int) := by omega
                have hgw : gf < wr.heap.size := World.block_lt_of_cell? wr _ x0
                go_upto_region 13 with fail
                obtain ⟨w3, hw3⟩ : ∃ w3, wr.alloc (.cells #[.int .i64 (foA : Int), .int .i64 (toA : Int), .slice pq noA cq] 59) = w3 := ⟨_, rfl⟩
                have hsa : w3.heap[wr.heap.size]? = some (.cells #[.int .i64 (foA : Int), .int .i64 (toA : Int), .slice pq noA cq] 59 (0, 0)) := by rw [← hw3]; exact heap_alloc_new wr _
                have hba : Below wr.heap.size wr w3 := by rw [← hw3]; exact (Below.refl _ wr).alloc (Nat.le_refl _) _
                rw [hw3]
                clear hw3
                have y0' := cell_below hba y0
                have y1' := cell_below hba y1
                have y2' := cell_below hba y2
                have t0 : w3.cell? ⟨wr.heap.size, 0, none⟩ = some (.int .i64 (foA : Int)) := by rw [cell_of_heap hsa]; rfl
                have t1 : w3.cell? ⟨wr.heap.size, 1, none⟩ = some (.int .i64 (toA : Int)) := by rw [cell_of_heap hsa]; rfl
                have t2 : w3.cell? ⟨wr.heap.size, 2, none⟩ = some (.slice pq noA cq) := by rw [cell_of_heap hsa]; rfl
                have tf := frozen_of_heap hsa
                clear x0 x1 x2 y0 y1 y2
                go_upto_region 15 with fail
                obtain ⟨w4, hw4⟩ : ∃ w4, (((w3.setCell ⟨wr.heap.size, 0, none⟩ (.int .i64 (foB : Int))).setCell ⟨wr.heap.size, 1, none⟩ (.int .i64 (toB : Int))).setCell ⟨wr.heap.size, 2, none⟩ (.slice po noB co)) = w4 := ⟨_, rfl⟩
                have hsb : w4.heap[wr.heap.size]? = some (.cells #[.int .i64 (foB : Int), .int .i64 (toB : Int), .slice po noB co] 59 (0, 0)) := by
                  have k1 := heap_setCell_same (o := 0) hsa (.int .i64 (foB : Int))
                  have k2 := heap_setCell_same (o := 1) k1 (.int .i64 (toB : Int))
                  have k3 := heap_setCell_same (o := 2) k2 (.slice po noB co)
                  rw [← hw4]; exact k3
                have hb3 : Below wr.heap.size wr w4 := by rw [← hw4]; exact ((hba.setCell (Nat.le_refl _) _).setCell (Nat.le_refl _) _).setCell (Nat.le_refl _) _
                rw [hw4]
                clear hw4 t0 t1 t2 tf y0' y1' y2' hsa hba
                have t0 : w4.cell? ⟨wr.heap.size, 0, none⟩ = some (.int .i64 (foB : Int)) := by rw [cell_of_heap hsb]; rfl
                have t1 : w4.cell? ⟨wr.heap.size, 1, none⟩ = some (.int .i64 (toB : Int)) := by rw [cell_of_heap hsb]; rfl
                have t2 : w4.cell? ⟨wr.heap.size, 2, none⟩ = some (.slice po noB co) := by rw [cell_of_heap hsb]; rfl
                cases tw with
                | false =>
                  have HS : Hid (∀ d5 W', FlyI w0 W j LB NB d gb pb pc (deliver S3 (delD true false Ls q ++ [Ls[fl.length - 1 - q]])) d5 (.slice (some ⟨gf, 0, none⟩) fl.length cf) fl W' → Hid (FlyI w0 W j LB NB d gb pb pc (deliver S3 (delD true false Ls (q + 1))) d5 (.slice (some ⟨gf, 0, none⟩) fl.length cf) fl W')) := fun d5 W' hh => by
                    show FlyI _ _ _ _ _ _ _ _ _ _ _ _ _ _
                    rw [HDS.out]; exact hh
                  clear HC2
                  go_wp2_with (go_at_call 27; refine (HC1.out _ hb3).mono ?_; rintro e w5 ⟨rfl, -, d5, H5⟩)
                  go_roundw
                  case rel =>
                    have R : q + 1 ≤ fl.length ∧ Value.int .i64 ((q : Int) + 1) = .int .i64 ((q + 1 : Nat) : Int) ∧ _ := ⟨by omega, by go_num, HS.out d5 _ H5.out⟩
                    first
                      | exact ⟨q + 1, d5, R⟩
                      | ((repeat apply Exists.intro); exact ⟨⟨q + 1, d5, R⟩, rfl⟩)
                  case measure => simp [intOf]; omega
                | true =>
                  have HS : Hid (∀ d5 W', FlyI w0 W j LB NB d gb pb pc (deliver S3 (delD true true Ls q ++ [Ls[fl.length - 1 - q], Ls[fl.length - 1 - q]])) d5 (.slice (some ⟨gf, 0, none⟩) fl.length cf) fl W' → Hid (FlyI w0 W j LB NB d gb pb pc (deliver S3 (delD true true Ls (q + 1))) d5 (.slice (some ⟨gf, 0, none⟩) fl.length cf) fl W')) := fun d5 W' hh => by
                    show FlyI _ _ _ _ _ _ _ _ _ _ _ _ _ _
                    rw [HDS.out]; exact hh
                  go_wp2_with (first
                    | (go_at_call 27; refine (HC2.out w5 d5 H5.out).mono ?_; rintro e w6 ⟨rfl, d6, H6⟩)
                    | (go_at_call 27; refine (HC1.out _ hb3).mono ?_; rintro e w5 ⟨rfl, hk5, d5, H5⟩; have hs5 := hk5 _ _ _ (Nat.le_refl _) hsb; have v0 : w5.cell? ⟨wr.heap.size, 0, none⟩ = some (.int .i64 (foB : Int)) := (by rw [cell_of_heap hs5]; rfl); have v1 : w5.cell? ⟨wr.heap.size, 1, none⟩ = some (.int .i64 (toB : Int)) := (by rw [cell_of_heap hs5]; rfl); have v2 : w5.cell? ⟨wr.heap.size, 2, none⟩ = some (.slice po noB co) := (by rw [cell_of_heap hs5]; rfl); clear hs5 hk5))
                  go_roundw
                  case rel =>
                    have R : q + 1 ≤ fl.length ∧ Value.int .i64 ((q : Int) + 1) = .int .i64 ((q + 1 : Nat) : Int) ∧ _ := ⟨by omega, by go_num, HS.out d6 _ H6.out⟩
                    first
                      | exact ⟨q + 1, d6, R⟩
                      | ((repeat apply Exists.intro); exact ⟨⟨q + 1, d6, R⟩, rfl⟩)
                  case measure => simp [intOf]; omega
            · obtain rfl : q = fl.length := by omega
              have HE : Hid (Rnds j (k + 1) S (deliver S3 (delD bw tw Ls fl.length)) ∧ Grp w0 j LB NB (deliver S3 (delD bw tw Ls fl.length)) d4 gb pb pc wr ∧ StepM j W d wr d4 ∧ ∀ i, i < j → (deliver S3 (delD bw tw Ls fl.length) i).now = (S i).now + (k + 1)) := by
                have hlen := HF.out.2.2.len
                refine ⟨HI.out.1.snoc (rnd_of2 HI.out.2.1.net.ok (fun i hi => by simp [tickTo, hi]) HF.out.2.1 (fun L hL => delD_mem hL) fun L hL => by rw [hlen]; exact delD_all hL), HQ.out.grp, HQ.out.step, fun i hi => ?_⟩
                rw [deliver_now, HF.out.2.1.now i]
                have e : (tickTo S1 j i).now = (S1 i).now + 1 := by simp [tickTo, hi, tickS]
                rw [e, HI.out.2.2.2 i hi]
                omega
              clear HQ
              go_wp2
              go_roundw
              case rel =>
                have R : k + 1 ≤ r ∧ Value.int .i64 ((k : Int) + 1) = .int .i64 ((k + 1 : Nat) : Int) ∧ _ := ⟨by omega, by go_num, HE⟩
                first
                  | exact ⟨k + 1, _, _, R⟩
                  | ((repeat apply Exists.intro); exact ⟨⟨k + 1, _, _, R⟩, rfl⟩)
              case measure => simp [intOf]; omega
    · obtain rfl : k = r := by omega
      go_wp2
      go_ret
      exact ⟨rfl, S1, d1, HI.out⟩

end Go.Proofs.YtckmppkdpnhodaaGreatDoor
