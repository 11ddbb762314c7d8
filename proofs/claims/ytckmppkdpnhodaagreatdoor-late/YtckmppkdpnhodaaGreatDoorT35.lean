/-
  Frames on their way, in memory. (*group).frames. Rounds of a group, purely: in what order the letters come.
-/
import Derived.Test.YtckmppkdpnhodaaGreatDoorT34
namespace Go.Proofs.YtckmppkdpnhodaaGreatDoor
set_option linter.unusedVariables false
set_option linter.unusedSimpArgs false
open Go.RowKit Go.Proofs

/-- Rows of other types lie in other blocks. -/
theorem tag_ne {w : World} {B B' : Nat} {e e' : TypeId} {s s' n n' : Nat} {v v' : Value} {xs xs' : List Value} (h : w.ownsRow B e s v n xs) (h' : w.ownsRow B' e' s' v' n' xs') (hne : e ≠ e') {b : Nat} (hb : v.ownBlock = some b) : v'.ownBlock ≠ some b := fun hb' => by
  rcases h.2 with ⟨h1, -⟩ | ⟨g, c, cur, h1, -, hg, -⟩
  · rw [h1] at hb; simp [Value.ownBlock] at hb
  · rcases h'.2 with ⟨k1, -⟩ | ⟨g', c', cur', k1, -, hg', -⟩
    · rw [k1] at hb'; simp [Value.ownBlock] at hb'
    · rw [h1] at hb
      rw [k1] at hb'
      have e1 : g = b := by simpa [Value.ownBlock] using hb
      have e2 : g' = b := by simpa [Value.ownBlock] using hb'
      rw [e1] at hg
      rw [e2, hg] at hg'
      simp at hg'
      exact hne hg'.2

theorem tag_blk {w : World} {B : Nat} {e t : TypeId} {s n : Nat} {v : Value} {xs : List Value} {C : Array Value} {b : Nat} (h : w.ownsRow B e s v n xs) (hc : w.heap[b]? = some (.cells C t (0, 0))) (hne : e ≠ t) : v.ownBlock ≠ some b := fun hb => by
  rcases h.2 with ⟨h1, -⟩ | ⟨g, c, cur, h1, -, hg, -⟩
  · rw [h1] at hb; simp [Value.ownBlock] at hb
  · rw [h1] at hb
    have e1 : g = b := by simpa [Value.ownBlock] using hb
    rw [e1, hc] at hg
    simp at hg
    exact hne hg.2.symm

/-- The cells of frames on their way: from whom, to whom, the bytes' slice. -/
def airCells (fl : List (Nat × Nat × Value × List UInt8)) : List Value := fl.flatMap fun o => [.int .i64 ((o.1 : Nat) : Int), .int .i64 ((o.2.1 : Nat) : Int), o.2.2.1]

theorem airCells_snoc (fl : List (Nat × Nat × Value × List UInt8)) (o : Nat × Nat × Value × List UInt8) : airCells (fl ++ [o]) = airCells fl ++ [.int .i64 ((o.1 : Nat) : Int), .int .i64 ((o.2.1 : Nat) : Int), o.2.2.1] := by simp [airCells]

theorem airCells_get (fl : List (Nat × Nat × Value × List UInt8)) {k : Nat} (hk : k < fl.length) : (airCells fl)[k * 3]? = some (.int .i64 ((fl[k].1 : Nat) : Int)) ∧ (airCells fl)[k * 3 + 1]? = some (.int .i64 ((fl[k].2.1 : Nat) : Int)) ∧ (airCells fl)[k * 3 + 2]? = some fl[k].2.2.1 := by
  have h := flat_at (fun o : Nat × Nat × Value × List UInt8 => [Value.int .i64 ((o.1 : Nat) : Int), .int .i64 ((o.2.1 : Nat) : Int), o.2.2.1]) 3 (fun _ => rfl) fl k
  exact ⟨by have := h 0 hk (by omega); simpa [airCells] using this, by have := h 1 hk (by omega); simpa [airCells] using this, by have := h 2 hk (by omega); simpa [airCells] using this⟩

/-- A row of frames on their way; none of its blocks is a replica's. -/
structure AirRow (B n : Nat) (d : Side) (v : Value) (fl : List (Nat × Nat × Value × List UInt8)) (W : World) : Prop where
  row : W.ownsRow B 59 3 v fl.length (airCells fl)
  each : ∀ o ∈ fl, W.ownsRow B 5 1 o.2.2.1 o.2.2.2.length (Lib.byteCells o.2.2.2)
  far : ∀ b, v.ownBlock = some b → d.far n b
  efar : ∀ o ∈ fl, ∀ b, o.2.2.1.ownBlock = some b → d.far n b

theorem AirRow.nil (B n : Nat) (d : Side) (W : World) : AirRow B n d (.slice none 0 0) [] W := ⟨World.ownsRow_nil .., by simp, by simp [Value.ownBlock], by simp⟩

theorem AirRow.step {B n : Nat} {d d' : Side} {v : Value} {fl : List (Nat × Nat × Value × List UInt8)} {W W' : World} (h : AirRow B n d v fl W) (st : StepM n W d W' d') : AirRow B n d' v fl W' := by
  have keep : ∀ {e : TypeId} {s k : Nat} {u : Value} {xs : List Value}, W.ownsRow B e s u k xs → (∀ b, u.ownBlock = some b → d.far n b) → W'.ownsRow B e s u k xs := fun ho hf => by
    refine ⟨ho.1, ?_⟩
    rcases ho.2 with hn | ⟨g, cap, cur, rfl, hb, hg, rest⟩
    · exact .inl hn
    · exact .inr ⟨g, cap, cur, rfl, hb, by rw [st.block g (Array.getElem?_eq_some_iff.1 hg).1 (hf g rfl)]; exact hg, rest⟩
  exact ⟨keep h.row h.far, fun o ho => keep (h.each o ho) (h.efar o ho), fun b hb => st.far b (h.row.lt b hb).2 (h.far b hb), fun o ho b hb => st.far b ((h.each o ho).lt b hb).2 (h.efar o ho b hb)⟩

theorem AirRow.below {B n : Nat} {d : Side} {v : Value} {fl : List (Nat × Nat × Value × List UInt8)} {W W' : World} (h : AirRow B n d v fl W) (hb : Below W.heap.size W W') : AirRow B n d v fl W' := h.step (StepM.below hb d)

/-- A group and its frames on their way, since a world W0. -/
structure FlyI (w0 W0 : World) (n LB NB : Nat) (d0 : Side) (gb pb pc : Nat) (S : Nat → Sr) (d : Side) (v : Value) (fl : List (Nat × Nat × Value × List UInt8)) (W : World) : Prop where
  grp : Grp w0 n LB NB S d gb pb pc W
  air : AirRow W0.heap.size n d v fl W
  step : StepM n W0 d0 W d

/-- One frame more. -/
theorem FlyI.put {w0 W0 : World} {n LB NB : Nat} {d0 : Side} {gb pb pc : Nat} {S : Nat → Sr} {d : Side} {v : Value} {fl : List (Nat × Nat × Value × List UInt8)} {W w5 : World} (h : FlyI w0 W0 n LB NB d0 gb pb pc S d v fl W) (h0 : w0.heap.size ≤ W0.heap.size) {o : Nat × Nat × Value × List UInt8} (ho : W.ownsRow W0.heap.size 5 1 o.2.2.1 o.2.2.2.length (Lib.byteCells o.2.2.2)) (hof : ∀ b, o.2.2.1.ownBlock = some b → d.far n b) {g cap : Nat}
    (hu : Upd [v.ownBlock] W w5) (hr : w5.ownsRow W0.heap.size 59 3 (.slice (some ⟨g, 0, none⟩) (fl.length + 1) cap) (fl.length + 1) (airCells fl ++ [.int .i64 ((o.1 : Nat) : Int), .int .i64 ((o.2.1 : Nat) : Int), o.2.2.1])) (hat : v.ownBlock = some g ∨ W.heap.size ≤ g) :
    FlyI w0 W0 n LB NB d0 gb pb pc S d (.slice (some ⟨g, 0, none⟩) (fl.length + 1) cap) (fl ++ [o]) w5 := by
  have hX : ∀ b, some b ∈ [v.ownBlock] → v.ownBlock = some b := fun b hb => (List.mem_singleton.1 hb).symm
  have hge : ∀ b, v.ownBlock = some b → W0.heap.size ≤ b := fun b hb => own_ge h.air.row hb
  refine ⟨h.grp.keep hu fun b hb => ⟨by have := hge b (hX b hb); omega, h.air.far b (hX b hb), fun e => ?_, fun e => ?_⟩, ⟨by rw [List.length_append, airCells_snoc]; exact hr, fun x hx => ?_, fun b hb => ?_, fun x hx => ?_⟩, ⟨hu.os.trans h.step.os, hu.tape.trans h.step.tape, hu.output.trans h.step.output, Nat.le_trans h.step.size hu.size, h.step.rb, fun b hb hf => ?_, h.step.far⟩⟩
  · exact tag_blk h.air.row h.grp.grp (by decide) (by rw [← e]; exact hX b hb)
  · obtain ⟨C, hC⟩ := h.grp.pblk
    exact tag_blk h.air.row hC (by decide) (by rw [← e]; exact hX b hb)
  · have hrow : W.ownsRow W0.heap.size 5 1 x.2.2.1 x.2.2.2.length (Lib.byteCells x.2.2.2) := by
      rcases List.mem_append.1 hx with hx | hx
      · exact h.air.each x hx
      · cases List.mem_singleton.1 hx; exact ho
    exact hu.owns hrow fun b hb hm => tag_ne hrow h.air.row (by decide) hb (hX b hm)
  · have hbg : b = g := by cases hb; rfl
    subst hbg
    rcases hat with e | e
    · exact h.air.far b e
    · exact h.grp.net.m.new e
  · rcases List.mem_append.1 hx with hx | hx
    · exact h.air.efar x hx
    · cases List.mem_singleton.1 hx; exact hof
  · exact (hu.block b (Nat.lt_of_lt_of_le hb h.step.size) fun hm => by have := hge b (hX b hm); omega).trans (h.step.block b hb hf)

end Go.Proofs.YtckmppkdpnhodaaGreatDoor

namespace Go.Proofs.YtckmppkdpnhodaaGreatDoor
set_option linter.unusedVariables false
set_option linter.unusedSimpArgs false
open Go.RowKit Go.Proofs

attribute [local go_sem ↓] Go.wp_at_zero Go.wp_at_succ

theorem Tryz.info_sent : (Tryz.prog.info? 59).map (fun i => (i.zero, i.size, i.bytes)) = some (some (.agg #[.int .i64 0, .int .i64 0, .slice none 0 0]), 3, 40) := by kernel_rfl

/-- The frame on its way bears the letter. -/
def FlyR (o : Nat × Nat × Value × List UInt8) (L : Lt) : Prop := o.1 = L.src ∧ o.2.1 = L.dst ∧ Bears L o.2.2.2

theorem outCells_get (os : List (Nat × Value × List UInt8)) {k : Nat} (hk : k < os.length) : (outCells os)[k * 2]? = some (.int .i64 ((os[k].1 : Nat) : Int)) ∧ (outCells os)[k * 2 + 1]? = some os[k].2.1 := by
  have h := flat_at (fun o : Nat × Value × List UInt8 => [Value.int .i64 ((o.1 : Nat) : Int), o.2.1]) 2 (fun _ => rfl) os k
  exact ⟨by have := h 0 hk (by omega); simpa [outCells] using this, by have := h 1 hk (by omega); simpa [outCells] using this⟩

def flyOf (k : Nat) (os : List (Nat × Value × List UInt8)) : List (Nat × Nat × Value × List UInt8) := os.map fun o => (k, o.1, o.2.1, o.2.2)

theorem both_fly {k : Nat} {os : List (Nat × Value × List UInt8)} {Ls : List Lt} (h : Both (fun (o : Nat × Value × List UInt8) (L : Lt) => o.1 = L.dst ∧ Bears L o.2.2) os Ls) (hs : ∀ L ∈ Ls, L.src = k) : Both FlyR (flyOf k os) Ls := by
  induction os generalizing Ls with
  | nil => cases Ls with
    | nil => trivial
    | cons _ _ => exact h.elim
  | cons o os ih => cases Ls with
    | nil => exact h.elim
    | cons L Ls => exact ⟨⟨(hs L (by simp)).symm, h.1.1, h.1.2⟩, ih h.2 fun M hM => hs M (by simp [hM])⟩

set_option maxRecDepth 100000 in
set_option maxHeartbeats 8000000 in
theorem gframesG {w0 W : World} {n LB NB : Nat} {S : Nat → Sr} {d : Side} {gb pb pc : Nat} (h : Grp w0 n LB NB S d gb pb pc W) (hg : Glob w0) :
    Calls Tryz.prog 26 #[.pointer (some ⟨gb, 0, none⟩)] W fun e w' => ∃ v fl Ls S' d', e = .returned v ∧ FlyI w0 W n LB NB d gb pb pc S' d' v fl w' ∧ Telling n n S S' Ls ∧ Both FlyR fl Ls ∧ fl.length ≤ 325 := by
  obtain ⟨iS, hi0, hi1, hi2, hi3⟩ := info_parts Tryz.info_sent
  have hn5 := h.net.fit.n5.2
  have hsz := h.net.size
  have HG : Hid (Glob w0) := hg
  have HST : Hid (FlyI w0 W n LB NB d gb pb pc S d (.slice none 0 0) [] W ∧ Telling n 0 S S [] ∧ Both FlyR [] [] ∧ ([] : List (Nat × Nat × Value × List UInt8)).length ≤ 65 * 0) := ⟨⟨h, AirRow.nil _ _ _ _, StepM.refl _ _ _⟩, Telling.start n S, trivial, by simp⟩
  clear h hg
  go_enter Tryz.func26, Tryz.ntmps26
  go_wp2
  go_loopw [3, 4] (fun v i wr => ∃ (k : Nat) (fl : List (Nat × Nat × Value × List UInt8)) (Ls : List Lt) (S' : Nat → Sr) (d' : Side), k ≤ n ∧ i = .int .i64 (k : Int) ∧ Hid (FlyI w0 W n LB NB d gb pb pc S' d' v fl wr ∧ Telling n k S S' Ls ∧ Both FlyR fl Ls ∧ fl.length ≤ 65 * k)) (fun _ i _ => n - (intOf i).toNat)
  case atStart => exact ⟨0, [], [], S, d, by omega, rfl, HST⟩
  case round =>
    obtain ⟨k, fl, Ls, S1, d1, hk, rfl, HI⟩ := hrel
    have c0 := HI.out.1.grp.c0
    by_cases hlt : k < n
    · have cp := HI.out.1.grp.ptr k hlt
      have HFR : Hid (Calls Tryz.prog 29 #[.pointer (some ⟨d1.rb k, 0, none⟩)] wr fun e w' => ∃ p c os Lm s' d2, e = .returned (.slice p os.length c) ∧ os.length ≤ 65 ∧ w'.cell? ⟨gb, 0, none⟩ = some (.slice (some ⟨pb, 0, none⟩) n pc) ∧ Hid (FlyI w0 W n LB NB d gb pb pc (updS S1 k s') d2 u3 fl w' ∧ OutRow wr.heap.size (.slice p os.length c) os w' ∧ Both (fun (o : Nat × Value × List UInt8) (L : Lt) => o.1 = L.dst ∧ Bears L o.2.2) os Lm ∧ FramesTo n k (S1 k) s' Lm ∧ ∀ o ∈ os, ∀ b, o.2.1.ownBlock = some b → d2.far n b)) := by
        refine (framesN HI.out.1.grp.net HG.out hlt).mono ?_
        rintro e w' ⟨fv, os, Lm, s', d2, rfl, q1, q2, q3, q4, q5, q6, q7, q8⟩
        obtain ⟨p, c, rfl⟩ := own_form q1.row
        have hgr := HI.out.1.grp.step q5 q6
        exact ⟨p, c, os, Lm, s', d2, rfl, q2, hgr.c0, ⟨hgr, HI.out.1.air.step q6, HI.out.1.step.trans q6⟩, q1, q3, q4, q8⟩
      have hki : (k : Int) < (n : Int) := by omega
      have HTL : Hid (Telling n k S S1 Ls ∧ Both FlyR fl Ls ∧ fl.length ≤ 65 * k) := HI.out.2
      have hsr : W.heap.size ≤ wr.heap.size := HI.out.1.step.size
      generalize d1.rb k = rbk at *
      clear HI
      go_wp2_with (go_at_call 29; refine HFR.out.mono ?_; rintro e w2 ⟨po, co, os, Lm, s', d2, rfl, hos65, g0, H2⟩)
      clear c0 cp HFR
      have hos : os.length ≤ 65 := hos65
      generalize hB1 : wr.heap.size = B1 at *
      go_loopw [3, 6] (fun v j wr2 => ∃ (jj : Nat), jj ≤ os.length ∧ j = .int .i64 (jj : Int) ∧ Hid (FlyI w0 W n LB NB d gb pb pc (updS S1 k s') d2 v (fl ++ flyOf k (os.take jj)) wr2 ∧ OutRow B1 (.slice po os.length co) os wr2)) (fun _ j _ => os.length - (intOf j).toNat)
      case atStart => exact ⟨0, by omega, rfl, by simpa [flyOf] using H2.out.1, H2.out.2.1⟩
      case round =>
        obtain ⟨jj, hjj, rfl, HJ⟩ := hrel
        by_cases hjl : jj < os.length
        · obtain ⟨hF, hO⟩ := HJ.out
          obtain ⟨gf, cf, hgf, -, hgl⟩ := hO.row.form (by omega)
          simp only [Value.slice.injEq, true_and] at hgf
          obtain ⟨rfl, rfl⟩ := hgf
          obtain ⟨pj, cj, hvj⟩ := own_form (hO.each os[jj] (List.getElem_mem hjl))
          have cj0 : wr.cell? ⟨gf, jj * 2, none⟩ = some (.int .i64 ((os[jj].1 : Nat) : Int)) := by
            have := hO.row.cells (g := gf) rfl (jj * 2) _ (outCells_get os hjl).1
            rwa [Addr.add_mid, Nat.zero_add] at this
          have cj1 : wr.cell? ⟨gf, jj * 2 + 1, none⟩ = some (.slice pj os[jj].2.2.length cj) := by
            have := hO.row.cells (g := gf) rfl (jj * 2 + 1) _ (outCells_get os hjl).2
            rwa [Addr.add_mid, Nat.zero_add, hvj] at this
          have hjs : (jj : Int) < (os.length : Int) := by omega
          have hfl : (fl ++ flyOf k (os.take jj)).length ≤ 390 := by
            have := HTL.out.2.2
            rw [List.length_append]
            unfold flyOf
            rw [List.length_map, List.length_take]
            have : 65 * k ≤ 65 * 5 := Nat.mul_le_mul_left _ (by omega)
            omega
          have hsw : W.heap.size ≤ wr.heap.size := hF.step.size
          have HAA : Hid (∀ o, (wr.alloc o).ownsRow W.heap.size 59 3 u3 (fl ++ flyOf k (os.take jj)).length (airCells (fl ++ flyOf k (os.take jj)))) := fun o => (Upd.alloc (Upd.refl [] wr) o).owns hF.air.row (by simp)
          have HN : Hid (∀ (g cap : Nat) (o : Obj) (w5 : World), w5.ownsRow W.heap.size 59 3 (.slice (some ⟨g, 0, none⟩) ((fl ++ flyOf k (os.take jj)).length + 1) cap) ((fl ++ flyOf k (os.take jj)).length + 1) (airCells (fl ++ flyOf k (os.take jj)) ++ [.int .i64 (k : Int), .int .i64 ((os[jj].1 : Nat) : Int), .slice pj os[jj].2.2.length cj]) → (wr.alloc o).grownBy w5 u3.ownBlock → (u3.ownBlock = some g ∨ g = wr.heap.size + 1) → Hid (FlyI w0 W n LB NB d gb pb pc (updS S1 k s') d2 (.slice (some ⟨g, 0, none⟩) ((fl ++ flyOf k (os.take jj)).length + 1) cap) (fl ++ flyOf k (os.take (jj + 1))) w5 ∧ OutRow B1 (.slice (some ⟨gf, 0, none⟩) os.length co) os w5)) := fun g cap o w5 ho hg hat => by
            have u5 : Upd [u3.ownBlock] wr w5 := ((Upd.refl _ wr).alloc o).grown hg fun b hb => .inl (by simp [hb])
            have hput := hF.put hsz (o := (k, os[jj].1, os[jj].2.1, os[jj].2.2)) (owns_base (hO.each os[jj] (List.getElem_mem hjl)) (by omega)) (H2.out.2.2.2.2 os[jj] (List.getElem_mem hjl)) u5 (by rw [hvj]; exact ho) (hat.imp id fun h => by omega)
            refine ⟨?_, hO.upd u5 (fun b hb hm => tag_ne hO.row hF.air.row (by decide) hb (List.mem_singleton.1 hm).symm) fun x hx b hb hm => tag_ne (hO.each x hx) hF.air.row (by decide) hb (List.mem_singleton.1 hm).symm⟩
            rw [List.take_succ_eq_append_getElem hjl]
            unfold flyOf at hput ⊢
            rw [List.map_append, ← List.append_assoc]
            exact hput
          clear hF hO HJ hvj
          generalize os[jj].2.2.length = nj at *
          generalize os[jj].1 = tj at *
          generalize (fl ++ flyOf k (os.take jj)).length = ol at *
          go_wp2_with (at_builtin; refine wpList_append_lies _ rfl _ _ 52 rfl W.heap.size 59 iS (.agg #[.int .i64 0, .int .i64 0, .slice none 0 0]) 3 40 Tryz.underlying52 hi0 hi1 hi2 hi3 rfl (by decide) u3 ol (airCells (fl ++ flyOf k (os.take jj))) (by rfl) (HAA.out _) ⟨wr.heap.size, 0, none⟩ 1 1 [.int .i64 (k : Int), .int .i64 (tj : Int), .slice pj nj cj] (by rfl) (by rfl) (World.news_of_block (heap_alloc_new _ _)) (by simp [Value.oneCell']) (by omega) (by unfold maxLen; omega) (by omega) (by simp; omega) (wr.heap.size + 1) (by simp) ?_; intro g5 cap5 w5 ho5 hg5 hat5 hgl5)
          go_roundw
          case rel =>
            have R : jj + 1 ≤ os.length ∧ Value.int .i64 ((jj : Int) + 1) = .int .i64 ((jj + 1 : Nat) : Int) ∧ _ := ⟨by omega, by go_num, HN.out _ _ _ _ ho5 hg5 hat5⟩
            first
              | exact ⟨jj + 1, R⟩
              | ((repeat apply Exists.intro); exact ⟨⟨jj + 1, R⟩, rfl⟩)
          case measure => simp [intOf]; omega
        · obtain rfl : jj = os.length := by omega
          have HE : Hid (FlyI w0 W n LB NB d gb pb pc (updS S1 k s') d2 u3 (fl ++ flyOf k os) wr ∧ Telling n (k + 1) S (updS S1 k s') (Ls ++ Lm) ∧ Both FlyR (fl ++ flyOf k os) (Ls ++ Lm) ∧ (fl ++ flyOf k os).length ≤ 65 * (k + 1)) := by
            have hF := HJ.out.1
            rw [List.take_length] at hF
            obtain ⟨t1, t2, t3⟩ := HTL.out
            obtain ⟨-, -, b3, b4, -⟩ := H2.out
            refine ⟨hF, t1.step b4, t2.append (both_fly b3 fun L hL => (b4.ok L hL).1), ?_⟩
            rw [List.length_append]
            unfold flyOf
            rw [List.length_map]
            omega
          clear HJ
          go_wp2
          go_roundw
          case rel => exact ⟨k + 1, _, _, _, _, by omega, by go_num, HE⟩
          case measure => simp [intOf]; omega
    · obtain rfl : k = n := by omega
      have HE : Hid (FlyI w0 W k LB NB d gb pb pc S1 d1 u3 fl wr ∧ Telling k k S S1 Ls ∧ Both FlyR fl Ls ∧ fl.length ≤ 325) := ⟨HI.out.1, HI.out.2.1, HI.out.2.2.1, by have := HI.out.2.2.2; omega⟩
      clear HI
      go_wp2
      go_ret
      exact ⟨_, fl, Ls, S1, d1, rfl, HE.out⟩

end Go.Proofs.YtckmppkdpnhodaaGreatDoor

namespace Go.Proofs.YtckmppkdpnhodaaGreatDoor
set_option linter.unusedVariables false
set_option linter.unusedSimpArgs false
open Go.RowKit Go.Proofs

theorem deliver_append (S : Nat → Sr) (D E : List Lt) : deliver S (D ++ E) = deliver (deliver S D) E := by simp [deliver]

theorem ToldL.congr {n : Nat} {S T S' : Nat → Sr} {Ls : List Lt} (h : ToldL n S S' Ls) (he : ∀ i, i < n → T i = S i) : ToldL n T S' Ls := by
  refine ⟨fun i hi => by rw [he i hi]; exact h.log i hi, fun i hi => by rw [he i hi]; exact h.its i hi, h.due, h.none, fun L hL => ?_, fun i hi => by rw [he i hi]; exact h.all i hi, fun i hi => by rw [he i hi]; exact h.owed i hi⟩
  obtain ⟨h1, h2⟩ := h.ok L hL
  have e := he L.src h1.src
  exact ⟨⟨h1.src, h1.dst, h1.ne, by rw [e]; exact h1.h, by rw [e]; exact h1.es⟩, by rw [e]; exact h2⟩

theorem NetOk.congr {n : Nat} {S T : Nat → Sr} (h : NetOk n S) (he : ∀ i, i < n → T i = S i) : NetOk n T := by
  refine ⟨fun i hi => by rw [he i hi]; exact h.one i hi, fun i hi x hx => ?_, fun i hi j hj hji => by rw [he i hi, he j hj]; exact h.wait i hi j hj hji⟩
  rw [he i hi] at hx
  rw [he _ ((h.one i hi).org x hx)]
  exact h.src i hi x hx

/-- The whole round, out of its parts. -/
theorem rnd_of2 {n : Nat} {S S1 S' : Nat → Sr} {Ls D : List Lt} (hS : NetOk n S) (h0 : ∀ i, i < n → S1 i = tickS (S i)) (h : Telling n n S1 S' Ls) (h1 : ∀ L ∈ D, L ∈ Ls) (h2 : ∀ L ∈ Ls, L ∈ D) : Rnd n S (deliver S' D) := by
  have hn : NetOk n S1 := hS.tick.congr h0
  have hd : ∀ i, i < n → ∀ p ∈ (S1 i).its, p.due ≤ (S1 i).now := fun i hi => by rw [h0 i hi]; exact tick_due hS i hi
  exact ⟨S', Ls, D, (h.told hn hd).congr fun i hi => (h0 i hi).symm, h1, h2, rfl⟩

/-- The first j replicas have ticked. -/
def tickTo (S : Nat → Sr) (j : Nat) : Nat → Sr := fun i => if i < j then tickS (S i) else S i

theorem tickTo_succ (S : Nat → Sr) (j : Nat) : tickTo S (j + 1) = updS (tickTo S j) j (tickS (tickTo S j j)) := by
  funext i
  unfold tickTo updS
  by_cases e : i = j
  · subst e; simp
  · rw [if_neg e]
    dsimp only
    by_cases h : i < j
    · rw [if_pos h, if_pos (by omega)]
    · rw [if_neg h, if_neg (by omega)]

def ordK (bw : Bool) (m k : Nat) : Nat := if bw then m - 1 - k else k

/-- The letters that have come when k frames have. -/
def delD (bw tw : Bool) (Ls : List Lt) : Nat → List Lt
  | 0 => []
  | k + 1 => delD bw tw Ls k ++ (match Ls[ordK bw Ls.length k]? with | some L => if tw then [L, L] else [L] | none => [])

theorem delD_succ {bw tw : Bool} {Ls : List Lt} {k : Nat} {L : Lt} (h : Ls[ordK bw Ls.length k]? = some L) : delD bw tw Ls (k + 1) = delD bw tw Ls k ++ if tw then [L, L] else [L] := by
  rw [delD, h]

theorem delD_mem {bw tw : Bool} {Ls : List Lt} : ∀ {k : Nat} {L : Lt}, L ∈ delD bw tw Ls k → L ∈ Ls
  | 0, L, h => by simp [delD] at h
  | k + 1, L, h => by
    rw [delD] at h
    rcases List.mem_append.1 h with h | h
    · exact delD_mem h
    · split at h
      · rename_i M hM
        have : L = M := by
          cases tw <;> simp at h <;> exact h
        rw [this]
        exact List.mem_of_getElem? hM
      · simp at h

theorem delD_grow {bw tw : Bool} {Ls : List Lt} {j : Nat} {L : Lt} (hL : L ∈ delD bw tw Ls j) : ∀ {k : Nat}, j ≤ k → L ∈ delD bw tw Ls k
  | 0, h => by
    have : j = 0 := by omega
    subst this; exact hL
  | k + 1, h => by
    by_cases e : j = k + 1
    · subst e; exact hL
    · rw [delD]
      exact List.mem_append_left _ (delD_grow hL (by omega))

theorem delD_all {bw tw : Bool} {Ls : List Lt} {L : Lt} (hL : L ∈ Ls) : L ∈ delD bw tw Ls Ls.length := by
  obtain ⟨i, hi, rfl⟩ := List.mem_iff_getElem.1 hL
  obtain ⟨k, hk, ho⟩ : ∃ k, k < Ls.length ∧ ordK bw Ls.length k = i := by
    cases bw with
    | false => exact ⟨i, hi, rfl⟩
    | true => exact ⟨Ls.length - 1 - i, by omega, by simp only [ordK, if_pos]; omega⟩
  have h1 : Ls[i] ∈ delD bw tw Ls (k + 1) := by
    rw [delD_succ (L := Ls[i]) (by rw [ho]; exact List.getElem?_eq_getElem hi)]
    exact List.mem_append_right _ (by cases tw <;> simp)
  exact delD_grow h1 (by omega)

theorem deliver_now (i : Nat) : ∀ (D : List Lt) (S : Nat → Sr), (deliver S D i).now = (S i).now
  | [], _ => rfl
  | L :: D, S => by
    rw [deliver_cons, deliver_now i D]
    by_cases e : i = L.dst
    · subst e; rw [updS_same]; rfl
    · rw [updS_other _ _ e]

theorem Telling.now {n m : Nat} {S S' : Nat → Sr} {Ls : List Lt} (h : Telling n m S S' Ls) (i : Nat) : (S' i).now = (S i).now := by
  by_cases e : i < m
  · obtain ⟨Li, h1, -⟩ := h.did i e; exact h1.now
  · rw [h.rest i (by omega)]

end Go.Proofs.YtckmppkdpnhodaaGreatDoor
