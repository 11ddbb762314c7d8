/-
  Carts of whatever log, purely: what they hang on; the order of the log is all one. Contract of (*Log).Ops, entries of whatever replica. Contract of (*Replica).hasWhatGoes, entries of whatever replica.
-/
import Derived.Test.YtckmppkdpnhodaaGreatDoorT13
import Derived.Test.YtckmppkdpnhodaaGreatDoorT10
import Derived.Test.YtckmppkdpnhodaaGreatDoorT03
import Derived.Deep.RegionHeld3
namespace Go.Proofs.YtckmppkdpnhodaaGreatDoor
set_option linter.unusedVariables false
set_option linter.unusedSimpArgs false
open Go.RowKit Go.Proofs

theorem zero_get (o : Nat) : Rc.zero.get o = 0 := by
  unfold Rc.get Rc.zero
  repeat (split; · rfl)
  rfl

theorem endR_ge (k : Kd) (s : List UInt8) (o m : Nat) : ∀ pre : List En, m + 1 ≤ ((endR k pre s).getD Rc.zero).get o ↔ ∃ x ∈ pre, x.c.k = k ∧ x.c.word.data.toList = s ∧ m + 1 ≤ x.ah.get o := by
  refine snoc_ind (by simp [endR, zero_get]) fun l a ih => ?_
  rw [endR_snoc]
  simp only [List.mem_append, List.mem_singleton, or_and_right, exists_or, exists_eq_left]
  split
  · rename_i h
    simp only [Option.getD_some, Rc.join_get, ← ih]
    constructor
    · intro hm
      by_cases e : m + 1 ≤ ((endR k l s).getD Rc.zero).get o
      · exact .inl e
      · exact .inr ⟨h.1, h.2, by omega⟩
    · rintro (e | e) <;> omega
  · rename_i h
    rw [ih]
    constructor
    · exact .inl
    · rintro (e | e)
      · exact e
      · exact absurd ⟨e.1, e.2.1⟩ h

theorem noteR_ge (o m : Nat) : ∀ pre : List En, m + 1 ≤ (noteR pre).get o ↔ ∃ x ∈ pre, x.c.k = .closeWait ∧ m + 1 ≤ x.ah.get o := by
  refine snoc_ind (by simp [noteR, zero_get]) fun l a ih => ?_
  rw [noteR_snoc]
  simp only [List.mem_append, List.mem_singleton, or_and_right, exists_or, exists_eq_left]
  split
  · rename_i h
    rw [Rc.join_get, ← ih]
    constructor
    · intro hm
      by_cases e : m + 1 ≤ (noteR l).get o
      · exact .inl e
      · exact .inr ⟨h, by omega⟩
    · rintro (e | e) <;> omega
  · rename_i h
    rw [ih]
    constructor
    · exact .inl
    · rintro (e | e)
      · exact e
      · exact absurd e.1 h

/-- Does the second undo what the first put in, where it knew of it? -/
def Undo (x y : Cm) : Prop := (x.k = .closed ∧ y.k = .listen ∧ y.word.data.toList = x.word.data.toList) ∨ (x.k = .established ∧ y.k = .finWait ∧ y.word.data.toList = x.word.data.toList) ∨ (x.k = .closeWait ∧ y.k = .closeWait)

theorem goneR_ge (E : List En) (x : En) (o m : Nat) : m + 1 ≤ (goneR E x).get o ↔ ∃ y ∈ E, Undo x.c y.c ∧ m + 1 ≤ y.ah.get o := by
  unfold goneR Undo
  split
  · rename_i h; rw [endR_ge]; simp [h, and_assoc]
  · rename_i h; rw [endR_ge]; simp [h, and_assoc]
  · rename_i h; rw [noteR_ge]; simp [h]
  · rename_i h1 h2 h3
    rw [zero_get]
    constructor
    · intro h; omega
    · rintro ⟨y, -, (⟨h, -⟩ | ⟨h, -⟩ | ⟨h, -⟩), -⟩
      · exact absurd h h1
      · exact absurd h h2
      · exact absurd h h3

/-- Does the entry stay? -/
def stG (E : List En) (x : En) : Bool := decide (¬ x.seq ≤ (goneR E x).get x.org)

theorem stG_iff {E : List En} {x : En} (h : 1 ≤ x.seq) : stG E x = true ↔ ∀ y ∈ E, Undo x.c y.c → y.ah.get x.org < x.seq := by
  unfold stG
  have := goneR_ge E x x.org (x.seq - 1)
  rw [show x.seq - 1 + 1 = x.seq by omega] at this
  rw [decide_eq_true_eq, this]
  constructor
  · intro hn y hy hu
    exact Nat.lt_of_not_le fun hl => hn ⟨y, hy, hu, hl⟩
  · rintro hn ⟨y, hy, hu, hl⟩
    have := hn y hy hu
    omega

def cntG (E : List En) (s : List UInt8) (x : En) : Nat := if x.c.k = .closed ∧ x.c.word.data.toList = s ∧ stG E x = true then x.c.count else 0
def isG (E : List En) (k : Kd) (s : List UInt8) (x : En) : Bool := decide (x.c.k = k) && decide (x.c.word.data.toList = s) && stG E x

theorem cartG_it (E : List En) (s : List UInt8) : ∀ pre : List En, (cartG E pre).it s = if (pre.map (cntG E s)).sum = 0 then none else some (min 999 (pre.map (cntG E s)).sum) := by
  refine snoc_ind (by simp [cartG, CartS.empty]) fun l a ih => ?_
  rw [cartG_snoc, List.map_append, List.sum_append]
  simp only [List.map_cons, List.map_nil, List.sum_cons, List.sum_nil, Nat.add_zero]
  by_cases hg : a.seq ≤ (goneR E a).get a.org
  · rw [if_pos hg, ih]
    have : cntG E s a = 0 := if_neg (fun h => by have := h.2.2; simp [stG, hg] at this)
    rw [this, Nat.add_zero]
  · rw [if_neg hg]
    have hst : stG E a = true := by simp only [stG, hg, not_false_eq_true, decide_true]
    by_cases hk : a.c.k = .closed
    · by_cases hs : s = a.c.word.data.toList
      · have hc : cntG E s a = a.c.count := if_pos ⟨hk, hs.symm, hst⟩
        have h1 := (a.hc.add hk).1
        simp only [putC, hk]
        rw [if_pos hs, hc, if_neg (by omega), ← hs, ih]
        split
        · rename_i h0; rw [h0]; simp; omega
        · simp only [Option.getD_some]; congr 1; omega
      · have hc : cntG E s a = 0 := if_neg (fun h => hs h.2.1.symm)
        simp only [putC, hk]
        rw [if_neg hs, hc, Nat.add_zero, ih]
    · have hc : cntG E s a = 0 := if_neg (fun h => hk h.1)
      rw [hc, Nat.add_zero, ← ih]
      unfold putC
      split <;> first | rfl | (exfalso; exact hk ‹_›)

theorem cartG_cp (E : List En) (s : List UInt8) : ∀ pre : List En, (cartG E pre).cp s = pre.any (isG E .established s) := by
  refine snoc_ind (by simp [cartG, CartS.empty]) fun l a ih => ?_
  rw [cartG_snoc, List.any_append]
  simp only [List.any_cons, List.any_nil, Bool.or_false]
  by_cases hg : a.seq ≤ (goneR E a).get a.org
  · rw [if_pos hg, ih]
    have : isG E .established s a = false := by simp [isG, stG]; intros; omega
    rw [this, Bool.or_false]
  · rw [if_neg hg]
    have hst : stG E a = true := by simp only [stG, hg, not_false_eq_true, decide_true]
    by_cases hk : a.c.k = .established
    · simp only [putC, hk, isG, hst]
      by_cases hs : s = a.c.word.data.toList
      · rw [if_pos hs]; simp [hs]
      · rw [if_neg hs, ih]; simp [Ne.symm hs]
    · have : isG E .established s a = false := by simp [isG, hk]
      rw [this, Bool.or_false, ← ih]
      unfold putC
      split <;> first | rfl | (exfalso; exact hk ‹_›)

theorem cartG_no (E : List En) (s : List UInt8) : ∀ pre : List En, (cartG E pre).no s = pre.any (isG E .closeWait s) := by
  refine snoc_ind (by simp [cartG, CartS.empty]) fun l a ih => ?_
  rw [cartG_snoc, List.any_append]
  simp only [List.any_cons, List.any_nil, Bool.or_false]
  by_cases hg : a.seq ≤ (goneR E a).get a.org
  · rw [if_pos hg, ih]
    have : isG E .closeWait s a = false := by simp [isG, stG]; intros; omega
    rw [this, Bool.or_false]
  · rw [if_neg hg]
    have hst : stG E a = true := by simp only [stG, hg, not_false_eq_true, decide_true]
    by_cases hk : a.c.k = .closeWait
    · simp only [putC, hk, isG, hst]
      by_cases hs : s = a.c.word.data.toList
      · rw [if_pos hs]; simp [hs]
      · rw [if_neg hs, ih]; simp [Ne.symm hs]
    · have : isG E .closeWait s a = false := by simp [isG, hk]
      rw [this, Bool.or_false, ← ih]
      unfold putC
      split <;> first | rfl | (exfalso; exact hk ‹_›)

end Go.Proofs.YtckmppkdpnhodaaGreatDoor

namespace Go.Proofs.YtckmppkdpnhodaaGreatDoor
set_option linter.unusedVariables false
set_option linter.unusedSimpArgs false
open Go.RowKit Go.Proofs

set_option maxRecDepth 100000 in
set_option maxHeartbeats 4000000 in
theorem opsG (rb : Nat) (log : List En) (ev : Value) (w : World) (hv : VerbsAt w) (h4 : w.cell? ⟨rb, 4, none⟩ = some ev) (hrow : w.ownsRow 0 122 10 ev log.length (enRow log)) (h8 : log.length ≤ 4294967296) :
    Calls Tryz.prog 55 #[.pointer (some ⟨rb, 4, none⟩)] w fun e w' => ∃ p cap, e = .returned (.slice p log.length cap) ∧ w'.ownsRow w.heap.size 68 3 (.slice p log.length cap) log.length (opsRow log) ∧ Below w.heap.size w w' := by
  obtain ⟨pe, cape, hev⟩ : ∃ p c, ev = .slice p log.length c := by
    rcases hrow.2 with ⟨h1, h0⟩ | ⟨g, cap', _, h1, _⟩
    · rw [h0]; exact ⟨_, _, h1⟩
    · exact ⟨_, _, h1⟩
  have HR : Hid (w.ownsRow 0 122 10 ev log.length (enRow log)) := hrow
  have HV : Hid (VerbsAt w) := hv
  have HE : Hid (ev = .slice pe log.length cape) := hev
  clear hrow hv
  rw [hev] at h4
  clear hev
  obtain ⟨i0, hi0, hz0, hz1, hz2⟩ := info_parts Tryz.info_op
  go_enter Tryz.func55, Tryz.ntmps55
  go_wp2_with (at_make; refine wpList_make_own _ rfl _ _ 62 rfl w.heap.size 68 i0 _ 3 Tryz.underlying62 hi0 hz0 hz1 .i64 .i64 (log.length : Int) log.length rfl rfl rfl (by rw [hz2]; omega) (by unfold maxLen; omega) (Nat.le_refl _) ?_; intro w1 hown1 hgr1; have hb1 : Below w.heap.size w w1 := ⟨hgr1.os, hgr1.tape, hgr1.output, hgr1.size, fun b hb => hgr1.block b hb (by simp)⟩; have q4 := cell_below hb1 h4)
  go_loopw [3, 17] (fun v i wr => ∃ j : Nat, j ≤ log.length ∧ i = .int .i64 j ∧ Hid (wr.ownsRow w.heap.size 68 3 v j (opsRow (log.take j))) ∧ Hid (Below w.heap.size w wr)) (fun _ i _ => log.length - (intOf i).toNat)
  case atStart => exact ⟨0, Nat.zero_le _, rfl, (by simpa [opsRow] using hown1 : w1.ownsRow w.heap.size 68 3 _ 0 (opsRow (log.take 0))), hb1⟩
  case round =>
    obtain ⟨j, hj, rfl, hO, hB⟩ := hrel
    by_cases hlt : j < log.length
    · have hrw : wr.ownsRow 0 122 10 ev log.length (enRow log) := (Upd.of_below (S := []) hB.out).owns HR.out (by simp)
      obtain ⟨g, cap, hge, hgl, e0, e1, e2, e3, e4, e5, e6, e7, e8, e9⟩ := en_cells hrw hlt
      rw [HE.out] at hge
      obtain ⟨rfl, -, rfl⟩ : pe = some ⟨g, 0, none⟩ ∧ True ∧ cape = cap := by simpa using hge
      clear hge hrw
      have hcm := log[j].hc
      have HT : Hid (∀ W, Below wr.heap.size wr W → Calls Tryz.prog 100 #[.agg #[.int .i64 (log[j].c.k.num : Int), .string log[j].c.word, .int .i64 (log[j].c.count : Int)]] W fun e w' => e = .returned (.string (textOf log[j].c)) ∧ Below W.heap.size W w') := fun W hW => text_any log[j].c hcm W ((HV.out.below hB.out).below hW)
      have HS : Hid (opsRow (log.take (j + 1)) = opsRow (log.take j) ++ [.int .i64 (log[j].org : Int), .int .i64 (log[j].seq : Int), .string (textOf log[j].c)]) := by
        show _ = _
        rw [take_snoc' log j hlt, opsRow_snoc]
      have hk5 := log[j].c.k.num_lt
      generalize textOf log[j].c = tx at *
      generalize log[j].org = og at *
      generalize log[j].seq = sq at *
      generalize log[j].c.k.num = kn at *
      generalize log[j].c.word = wd at *
      generalize log[j].c.count = cn at *
      clear hcm h4
      have j0 : (0 : Int) ≤ (j : Int) := by omega
      have j1 : (j : Int) < (log.length : Int) := by omega
      generalize ((log[j].ah.a : Nat) : Int) = r0 at *
      generalize ((log[j].ah.b : Nat) : Int) = r1 at *
      generalize ((log[j].ah.c : Nat) : Int) = r2 at *
      generalize ((log[j].ah.d : Nat) : Int) = r3 at *
      generalize ((log[j].ah.e : Nat) : Int) = r4 at *
      go_wp2_with fail
      obtain ⟨wa, hwa⟩ : ∃ x, x = wr.alloc (.cells #[.int .i64 (og : Int), .int .i64 (sq : Int), .int .i64 r0, .int .i64 r1, .int .i64 r2, .int .i64 r3, .int .i64 r4, .int .i64 (kn : Int), .string wd, .int .i64 (cn : Int)] 122) := ⟨_, rfl⟩
      have hba : Below wr.heap.size wr wa := by rw [hwa]; exact (Below.refl _ wr).alloc (Nat.le_refl _) _
      have hhe : wa.heap[wr.heap.size]? = some (.cells #[.int .i64 (og : Int), .int .i64 (sq : Int), .int .i64 r0, .int .i64 r1, .int .i64 r2, .int .i64 r3, .int .i64 r4, .int .i64 (kn : Int), .string wd, .int .i64 (cn : Int)] 122 (0, 0)) := by rw [hwa]; exact heap_alloc_new wr _
      have a0 : wa.cell? ⟨wr.heap.size, 0, none⟩ = some (.int .i64 (og : Int)) := by rw [cell_of_heap hhe]; rfl
      have a1 : wa.cell? ⟨wr.heap.size, 1, none⟩ = some (.int .i64 (sq : Int)) := by rw [cell_of_heap hhe]; rfl
      have a7 : wa.cell? ⟨wr.heap.size, 7, none⟩ = some (.int .i64 (kn : Int)) := by rw [cell_of_heap hhe]; rfl
      have a8 : wa.cell? ⟨wr.heap.size, 8, none⟩ = some (.string wd) := by rw [cell_of_heap hhe]; rfl
      have a9 : wa.cell? ⟨wr.heap.size, 9, none⟩ = some (.int .i64 (cn : Int)) := by rw [cell_of_heap hhe]; rfl
      have nu : u3.ownBlock ≠ some wr.heap.size := fun e => by have := (hO.out.lt _ e).2; omega
      have HTA : Hid (Calls Tryz.prog 100 #[.agg #[.int .i64 (kn : Int), .string wd, .int .i64 (cn : Int)]] wa.drew fun e w' => e = .returned (.string tx) ∧ Below wa.drew.heap.size wa.drew w') := HT.out _ hba.drew
      have HBA : Hid (Below w.heap.size w wa) := hB.out.trans (hba.mono hB.out.size)
      have hOa : wa.ownsRow w.heap.size 68 3 u3 j (opsRow (log.take j)) := (Upd.of_below (S := []) hba).owns hO.out (by simp)
      have HOA : Hid (wa.ownsRow w.heap.size 68 3 u3 j (opsRow (log.take j))) := hOa
      have hwl : w.heap.size ≤ wa.heap.size := HBA.out.size
      have hel : wr.heap.size < wa.heap.size := by rw [hwa]; simp
      clear hhe hba hOa e0 e1 e2 e3 e4 e5 e6 e7 e8 e9 HT q4
      rw [← hwa]
      clear hwa
      generalize wr.heap.size = eb at *
      go_region_held3 (fun w' => w'.cell? ⟨eb, 0, none⟩ = some (.int .i64 (og : Int)) ∧ w'.cell? ⟨eb, 1, none⟩ = some (.int .i64 (sq : Int)) ∧ w'.cell? ⟨eb, 7, none⟩ = some (.int .i64 (kn : Int)) ∧ w'.cell? ⟨eb, 8, none⟩ = some (.string wd) ∧ w'.cell? ⟨eb, 9, none⟩ = some (.int .i64 (cn : Int)))
        (first
          | exact ⟨a0, a1, a7, a8, a9⟩
          | exact ⟨cell_below hb5 a0, cell_below hb5 a1, cell_below hb5 a7, cell_below hb5 a8, cell_below hb5 a9⟩
          | go_keep
          | (refine ⟨?_, ?_, ?_, ?_, ?_⟩ <;> (rw [hgrow.cell_far _ (by first | (simp; done) | (simp; omega)) (Ne.symm nu), World.cell?_alloc_past _ _ _ (by omega)]; first | exact cell_below hb5 a0 | exact cell_below hb5 a1 | exact cell_below hb5 a7 | exact cell_below hb5 a8 | exact cell_below hb5 a9)))
        (first
          | (go_at_call 100; refine HTA.out.mono ?_; rintro e w5 ⟨rfl, hb5⟩; have l5 : wa.heap.size ≤ w5.heap.size := hb5.size)
          | (refine step_append_lies _ (by rfl) _ _ _ (by rfl) w.heap.size 68 i0 _ 3 32 Tryz.underlying62 hi0 hz0 hz1 hz2 rfl (by omega) u3 j (opsRow (log.take j)) (by rfl) ((Upd.alloc (Upd.of_below (S := []) (((Below.refl _ wa).drew).trans hb5)) _).owns HOA.out (by simp))
              ⟨w5.heap.size, 0, none⟩ 1 1 [.int .i64 (og : Int), .int .i64 (sq : Int), .string tx] (by rfl) (by rfl) (World.news_of_block (cs := #[.int .i64 (og : Int), .int .i64 (sq : Int), .string tx]) (t := 68) (fr := (0, 0)) (heap_alloc_new w5 _)) (by simp [Value.oneCell'])
              (by omega) (by unfold maxLen; omega) (by omega) (by simp; omega) (w5.heap.size + 1) (by simp) ?_; intro g6 cap6 w6 hown6 hgrow hat6 hlt6))
      go_wp2
      go_roundw
      case rel =>
        have hub : Upd [u3.ownBlock] wa w6 := (((Upd.of_below (S := [u3.ownBlock]) (((Below.refl _ wa).drew).trans hb5)).alloc _).grown hgrow fun b hb => .inl (by simp [hb]))
        refine ⟨j + 1, by omega, by go_num, ?_, ?_⟩
        · show w6.ownsRow _ _ _ _ _ _
          rw [HS.out]; exact hown6
        · refine ⟨hub.os.trans HBA.out.os, hub.tape.trans HBA.out.tape, hub.output.trans HBA.out.output, Nat.le_trans HBA.out.size hub.size, fun b hb => (hub.block b (Nat.lt_of_lt_of_le hb HBA.out.size) ?_).trans (HBA.out.block b hb)⟩
          intro hm
          have := (HOA.out.lt b (List.mem_singleton.1 hm).symm).1
          omega
      case measure => simp [intOf]; omega
    · obtain rfl : j = log.length := by omega
      rw [List.take_length] at hO
      obtain ⟨pv, cv, hvv⟩ : ∃ p c, u3 = .slice p log.length c := by
        rcases hO.out.2 with ⟨h1, h0⟩ | ⟨g, cap', _, h1, _⟩
        · rw [h0]; exact ⟨_, _, h1⟩
        · exact ⟨_, _, h1⟩
      subst hvv
      go_wp2_with fail
      go_ret
      exact ⟨pv, cv, rfl, hO.out, hB.out⟩

end Go.Proofs.YtckmppkdpnhodaaGreatDoor

namespace Go.Proofs.YtckmppkdpnhodaaGreatDoor
set_option linter.unusedVariables false
set_option linter.unusedSimpArgs false
open Go.RowKit Go.Proofs Go.Shelf

attribute [local go_sem ↓] Go.wp_at_zero Go.wp_at_succ

/-- The cart of the log, worked out. -/
theorem ofAllG (rb : Nat) (log : List En) (h8 : log.length ≤ 4294967296) (ev : Value) (a : Option Addr) (cap : Nat) (hev : ev = .slice a log.length cap) (w : World) (h4 : w.cell? ⟨rb, 4, none⟩ = some ev) (hrow : w.ownsRow 0 122 10 ev log.length (enRow log)) :
    Calls Tryz.prog 52 #[.pointer (some ⟨rb, 4, none⟩)] w fun e w' => e = .returned (.func (.func 131) #[] #[.pointer (some ⟨w.heap.size, 0, none⟩)]) ∧ Below w.heap.size w w' ∧
      ∀ u, Below w'.heap.size w' u → Calls Tryz.prog 51 #[.func (.func 131) #[] #[.pointer (some ⟨w.heap.size, 0, none⟩)]] u fun e W' =>
        ∃ c, e = .returned (.agg #[.map (some c), .map (some (c + 1)), .map (some (c + 1 + 1))]) ∧ u.heap.size ≤ c ∧ c + 1 + 1 < W'.heap.size ∧ CartAt W' c (c + 1) (c + 1 + 1) log.length (cartG log log) ∧ Below u.heap.size u W' := by
  subst hev
  refine (all_any rb a log.length cap w h4).mono ?_
  rintro e w' ⟨rfl, rfl⟩
  refine ⟨rfl, (Below.refl _ w).alloc (Nat.le_refl _) _, fun u hu => ?_⟩
  have hb : Below w.heap.size w u := ((Below.refl _ w).alloc (Nat.le_refl _) _).trans (hu.mono (by simp))
  refine callsIn_wide.1 (ofG w.heap.size (.slice a log.length cap) log h8 u ?_ (fun b hb' => Nat.lt_of_lt_of_le (hrow.lt b hb').2 hb.size) ((Upd.of_below (S := []) hb).owns hrow (by simp)))
  refine cell_below hu ?_
  rw [cell_of_heap (heap_alloc_new w _)]
  rfl

set_option maxRecDepth 100000 in
set_option maxHeartbeats 4000000 in
theorem goesG (rb : Nat) (log : List En) (h8 : log.length ≤ 4294967296) (ev : Value) (w : World) (h4 : w.cell? ⟨rb, 4, none⟩ = some ev) (hrow : w.ownsRow 0 122 10 ev log.length (enRow log)) (c : Cm) (hc : CmOk c) :
    Calls Tryz.prog 47 #[.pointer (some ⟨rb, 0, none⟩), .agg #[.int .i64 (c.k.num : Int), .string c.word, .int .i64 (c.count : Int)]] w fun e w' => e = .returned (.bool (goesB (cartG log log) c)) ∧ Below w.heap.size w w' := by
  obtain ⟨a, cap, hev⟩ : ∃ p c, ev = .slice p log.length c := by
    rcases hrow.2 with ⟨h1, h0⟩ | ⟨g, cap', _, h1, _⟩
    · rw [h0]; exact ⟨_, _, h1⟩
    · exact ⟨_, _, h1⟩
  have hw8 : c.word.size ≤ maxLen := by
    have := hc.word
    simp only [wordB, Bool.and_eq_true, decide_eq_true_eq] at this; unfold maxLen; omega
  have B1 : ∀ o, Below w.heap.size w (w.alloc o) := fun o => (Below.refl _ w).alloc (Nat.le_refl _) _
  have HB1 : Hid (∀ o, Below w.heap.size w (w.alloc o)) := B1
  have HA : Hid (∀ o, Calls Tryz.prog 52 #[.pointer (some ⟨rb, 4, none⟩)] (w.alloc o).drew fun e w' => e = .returned (.func (.func 131) #[] #[.pointer (some ⟨(w.alloc o).drew.heap.size, 0, none⟩)]) ∧ Below (w.alloc o).drew.heap.size (w.alloc o).drew w' ∧
      ∀ u, Below w'.heap.size w' u → Calls Tryz.prog 51 #[.func (.func 131) #[] #[.pointer (some ⟨(w.alloc o).drew.heap.size, 0, none⟩)]] u fun e W' =>
        ∃ c, e = .returned (.agg #[.map (some c), .map (some (c + 1)), .map (some (c + 1 + 1))]) ∧ u.heap.size ≤ c ∧ c + 1 + 1 < W'.heap.size ∧ CartAt W' c (c + 1) (c + 1 + 1) log.length (cartG log log) ∧ Below u.heap.size u W') := fun o =>
    ofAllG rb log h8 ev a cap hev _ (cell_below ((B1 o).drew) h4) ((Upd.of_below (S := []) ((B1 o).drew)).owns hrow (by simp))
  have hrl : rb < w.heap.size := World.block_lt_of_cell? w _ h4
  clear h4 hrow hev B1
  generalize cartG log log = S at *
  cases hk : c.k with
  | closed =>
    simp only [goesB, hk, Kd.num]
    go_enter Tryz.func47, Tryz.ntmps47
    go_wp2
    go_ret
    exact ⟨rfl, HB1.out _⟩
  | established =>
    simp only [goesB, hk, Kd.num]
    go_enter Tryz.func47, Tryz.ntmps47
    go_wp2
    go_ret
    exact ⟨rfl, HB1.out _⟩
  | closeWait =>
    simp only [goesB, hk, Kd.num]
    go_enter Tryz.func47, Tryz.ntmps47
    go_wp2
    go_ret
    exact ⟨rfl, HB1.out _⟩
  | listen =>
    have HH : Hid (∀ c1 W', CartAt W' c1 (c1 + 1) (c1 + 1 + 1) log.length S → Calls Tryz.prog 85 #[.agg #[.map (some c1), .map (some (c1 + 1)), .map (some (c1 + 1 + 1))], .string c.word] W' fun e w' => e = .returned (.bool (S.it c.word.data.toList).isSome) ∧ Below W'.heap.size W' w') := fun c1 W' h => hasItem_any _ _ _ _ S c.word hw8 W' h
    simp only [goesB, hk, Kd.num]
    generalize (S.it c.word.data.toList).isSome = res at *
    go_enter Tryz.func47, Tryz.ntmps47
    go_upto_region 3 with fail
    obtain ⟨wa, hwa⟩ : ∃ wa, w.alloc (.cells #[.int .i64 1, .string c.word, .int .i64 (c.count : Int)] 116) = wa := ⟨_, rfl⟩
    have HAa := HA.out (.cells #[.int .i64 1, .string c.word, .int .i64 (c.count : Int)] 116)
    have HBa := HB1.out (.cells #[.int .i64 1, .string c.word, .int .i64 (c.count : Int)] 116)
    have a1 : (w.alloc (.cells #[.int .i64 1, .string c.word, .int .i64 (c.count : Int)] 116)).cell? ⟨w.heap.size, 1, none⟩ = some (.string c.word) := by rw [cell_of_heap (heap_alloc_new w _)]; rfl
    rw [hwa] at HAa HBa a1 ⊢
    have HAA := HAa
    have HBA : Hid (Below w.heap.size w wa) := HBa
    clear HA HB1 HAa HBa hwa hc
    generalize hb0 : w.heap.size = b0 at *
    go_region_held3 (fun w' => w'.cell? ⟨b0, 1, none⟩ = some (.string c.word))
      (first
        | exact a1
        | exact cell_below t2 a1
        | exact cell_below t5 a1
        | exact cell_below t7 a1
        | go_keep)
      (first
        | (go_at_call 52; refine Calls.mono HAA ?_; rintro e w2 ⟨rfl, u2, v2⟩; have t2 : Below wa.heap.size wa w2 := ((Below.refl _ wa).drew).trans u2)
        | (go_at_call 51; refine (v2 _ (Below.refl _ _)).mono ?_; rintro e w5 ⟨c1, rfl, m1, m2, m3, u5⟩; have t5 : Below wa.heap.size wa w5 := t2.trans (u5.mono t2.size))
        | (go_at_call 85; refine (HH.out c1 _ m3).mono ?_; rintro e w7 ⟨rfl, u7⟩; have t7 : Below wa.heap.size wa w7 := t5.trans (u7.mono t5.size)))
    go_wp2
    go_ret
    exact ⟨rfl, by have hs := HBA.out.size; rw [hb0] at hs ⊢; exact HBA.out.trans (t7.mono hs)⟩
  | finWait =>
    have HH : Hid (∀ c1 W', CartAt W' c1 (c1 + 1) (c1 + 1 + 1) log.length S → Calls Tryz.prog 86 #[.agg #[.map (some c1), .map (some (c1 + 1)), .map (some (c1 + 1 + 1))], .string c.word] W' fun e w' => e = .returned (.bool (S.cp c.word.data.toList)) ∧ Below W'.heap.size W' w') := fun c1 W' h => hasCoupon_any _ _ _ _ S c.word hw8 W' h
    simp only [goesB, hk, Kd.num]
    generalize (S.cp c.word.data.toList) = res at *
    go_enter Tryz.func47, Tryz.ntmps47
    go_upto_region 5 with fail
    obtain ⟨wa, hwa⟩ : ∃ wa, w.alloc (.cells #[.int .i64 3, .string c.word, .int .i64 (c.count : Int)] 116) = wa := ⟨_, rfl⟩
    have HAa := HA.out (.cells #[.int .i64 3, .string c.word, .int .i64 (c.count : Int)] 116)
    have HBa := HB1.out (.cells #[.int .i64 3, .string c.word, .int .i64 (c.count : Int)] 116)
    have a1 : (w.alloc (.cells #[.int .i64 3, .string c.word, .int .i64 (c.count : Int)] 116)).cell? ⟨w.heap.size, 1, none⟩ = some (.string c.word) := by rw [cell_of_heap (heap_alloc_new w _)]; rfl
    rw [hwa] at HAa HBa a1 ⊢
    have HAA := HAa
    have HBA : Hid (Below w.heap.size w wa) := HBa
    clear HA HB1 HAa HBa hwa hc
    generalize hb0 : w.heap.size = b0 at *
    go_region_held3 (fun w' => w'.cell? ⟨b0, 1, none⟩ = some (.string c.word))
      (first
        | exact a1
        | exact cell_below t2 a1
        | exact cell_below t5 a1
        | exact cell_below t7 a1
        | go_keep)
      (first
        | (go_at_call 52; refine Calls.mono HAA ?_; rintro e w2 ⟨rfl, u2, v2⟩; have t2 : Below wa.heap.size wa w2 := ((Below.refl _ wa).drew).trans u2)
        | (go_at_call 51; refine (v2 _ (Below.refl _ _)).mono ?_; rintro e w5 ⟨c1, rfl, m1, m2, m3, u5⟩; have t5 : Below wa.heap.size wa w5 := t2.trans (u5.mono t2.size))
        | (go_at_call 86; refine (HH.out c1 _ m3).mono ?_; rintro e w7 ⟨rfl, u7⟩; have t7 : Below wa.heap.size wa w7 := t5.trans (u7.mono t5.size)))
    go_wp2
    go_ret
    exact ⟨rfl, by have hs := HBA.out.size; rw [hb0] at hs ⊢; exact HBA.out.trans (t7.mono hs)⟩

end Go.Proofs.YtckmppkdpnhodaaGreatDoor
