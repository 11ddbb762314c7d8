/-
  Contract of (*Box).Put. Contract of (*Log).Do. (*Replica).Do, where it is refused. Contract of (*Replica).View. The iterator over a log: slices.Values at entries of whatever replica.
-/
import Derived.Test.YtckmppkdpnhodaaGreatDoorT10
import Derived.Deep.RegionHeld3
import Derived.Test.YtckmppkdpnhodaaGreatDoorT09
import Derived.Test.YtckmppkdpnhodaaGreatDoorT14
import Derived.Defers
import Derived.Test.YtckmppkdpnhodaaGreatDoorT15
import Derived.Test.YtckmppkdpnhodaaGreatDoorT06
import Derived.Test.YtckmppkdpnhodaaGreatDoorT08
import Derived.RangeFuncNested
import Derived.RangeFuncBound
import Derived.RangeFuncCalls
import Derived.RangeFuncLeaves
import Derived.Shelf.Abstract
import Derived.Shelf.RegionOpen
import Derived.WalkKit
import Derived.OwnWalkIn
import Derived.TacticsInMore
import Derived.LoopNIn
import Derived.LoopIn
namespace Go.Proofs.YtckmppkdpnhodaaGreatDoor
set_option linter.unusedVariables false
set_option linter.unusedSimpArgs false
open Go.RowKit Go.Proofs

attribute [local go_sem ↓] Go.wp_at_zero Go.wp_at_succ

set_option maxRecDepth 100000 in
set_option maxHeartbeats 4000000 in
theorem boxput_any (rb me : Nat) (log : List Cm) (its : List (Nat × Nat)) (hl : its.length < 100) (t i : Nat) (cm : Cm) (hi : log[i]? = some cm) (wv : Value) (C : Array Value) (T : TypeId) (w : World) (hrb : w.heap[rb]? = some (.cells C T (0, 0))) (h10 : C[10]? = some (.int .i64 0)) (h11 : C[11]? = some wv)
    (hrow : w.ownsRow 0 171 12 wv its.length (boxC me log its)) (hne : wv.ownBlock ≠ some rb) :
    Calls Tryz.prog 50 #[.pointer (some ⟨rb, 10, none⟩), .int .i64 (t : Int), .agg #[.int .i64 (me : Int), .int .i64 ((i : Int) + 1), .int .i64 ((rc me 0 i : Nat) : Int), .int .i64 ((rc me 1 i : Nat) : Int), .int .i64 ((rc me 2 i : Nat) : Int), .int .i64 ((rc me 3 i : Nat) : Int), .int .i64 ((rc me 4 i : Nat) : Int), .int .i64 (cm.k.num : Int), .string cm.word, .int .i64 (cm.count : Int)]] w fun e w' =>
      e = .returned (.tuple #[]) ∧ ∃ g cap, w'.ownsRow 0 171 12 (.slice (some ⟨g, 0, none⟩) (its.length + 1) cap) (its.length + 1) (boxC me log (its ++ [(t, i)])) ∧ (wv.ownBlock = some g ∨ w.heap.size ≤ g) ∧ g ≠ rb ∧
        w'.heap[rb]? = some (.cells (C.setIfInBounds 11 (.slice (some ⟨g, 0, none⟩) (its.length + 1) cap)) T (0, 0)) ∧ Upd [some rb, wv.ownBlock] w w' := by
  have hrl : rb < w.heap.size := (Array.getElem?_eq_some_iff.1 hrb).1
  have HP : Hid (∀ W, Below w.heap.size w W → Calls Tryz.prog 89 #[.iface 175 (.pointer (some ⟨rb, 11, none⟩)), .iface 171 (.agg #[.int .i64 0, .int .i64 (t : Int), .int .i64 (me : Int), .int .i64 ((i : Int) + 1), .int .i64 ((rc me 0 i : Nat) : Int), .int .i64 ((rc me 1 i : Nat) : Int), .int .i64 ((rc me 2 i : Nat) : Int), .int .i64 ((rc me 3 i : Nat) : Int), .int .i64 ((rc me 4 i : Nat) : Int), .int .i64 (cm.k.num : Int), .string cm.word, .int .i64 (cm.count : Int)])] W fun e w' => e = .returned (.tuple #[]) ∧ ∃ g cap, w'.ownsRow 0 171 12 (.slice (some ⟨g, 0, none⟩) (its.length + 1) cap) (its.length + 1) (boxC me log (its ++ [(t, i)])) ∧ (wv.ownBlock = some g ∨ W.heap.size ≤ g) ∧ g ≠ rb ∧
        w'.heap[rb]? = some (.cells (C.setIfInBounds 11 (.slice (some ⟨g, 0, none⟩) (its.length + 1) cap)) T (0, 0)) ∧ Upd [some rb, wv.ownBlock] W w') := fun W hW => push_any rb me log its hl t i cm hi wv C T W ((hW.block rb hrl).trans hrb) h11 ((Upd.of_below (S := []) hW).owns hrow (by simp)) hne
  have c10 : w.cell? ⟨rb, 10, none⟩ = some (.int .i64 0) := by rw [cell_of_heap hrb, h10]
  have H10 : Hid (C[10]? = some (.int .i64 0)) := h10
  have hwl : ∀ b, wv.ownBlock = some b → b < w.heap.size := fun b hb => (hrow.lt b hb).2
  clear hrow hrb h11 h10 hi
  go_enter Tryz.func50, Tryz.ntmps50
  go_upto_region 1 with fail
  obtain ⟨wa, hwa⟩ : ∃ wa, w.alloc (.cells #[.int .i64 (me : Int), .int .i64 ((i : Int) + 1), .int .i64 ((rc me 0 i : Nat) : Int), .int .i64 ((rc me 1 i : Nat) : Int), .int .i64 ((rc me 2 i : Nat) : Int), .int .i64 ((rc me 3 i : Nat) : Int), .int .i64 ((rc me 4 i : Nat) : Int), .int .i64 (cm.k.num : Int), .string cm.word, .int .i64 (cm.count : Int)] 122) = wa := ⟨_, rfl⟩
  have hba : Below w.heap.size w wa := by rw [← hwa]; exact (Below.refl _ w).alloc (Nat.le_refl _) _
  have hea : wa.heap[w.heap.size]? = some (.cells #[.int .i64 (me : Int), .int .i64 ((i : Int) + 1), .int .i64 ((rc me 0 i : Nat) : Int), .int .i64 ((rc me 1 i : Nat) : Int), .int .i64 ((rc me 2 i : Nat) : Int), .int .i64 ((rc me 3 i : Nat) : Int), .int .i64 ((rc me 4 i : Nat) : Int), .int .i64 (cm.k.num : Int), .string cm.word, .int .i64 (cm.count : Int)] 122 (0, 0)) := by rw [← hwa]; exact heap_alloc_new w _
  have hsa : wa.heap.size = w.heap.size + 1 := by rw [← hwa]; simp
  rw [hwa]
  clear hwa
  have a10 := cell_below hba c10
  have a0 : wa.cell? ⟨w.heap.size, 0, none⟩ = some (.int .i64 (me : Int)) := by rw [cell_of_heap hea]; rfl
  have a1 : wa.cell? ⟨w.heap.size, 1, none⟩ = some (.int .i64 ((i : Int) + 1)) := by rw [cell_of_heap hea]; rfl
  have a2 : wa.cell? ⟨w.heap.size, 2, none⟩ = some (.int .i64 ((rc me 0 i : Nat) : Int)) := by rw [cell_of_heap hea]; rfl
  have a3 : wa.cell? ⟨w.heap.size, 3, none⟩ = some (.int .i64 ((rc me 1 i : Nat) : Int)) := by rw [cell_of_heap hea]; rfl
  have a4 : wa.cell? ⟨w.heap.size, 4, none⟩ = some (.int .i64 ((rc me 2 i : Nat) : Int)) := by rw [cell_of_heap hea]; rfl
  have a5 : wa.cell? ⟨w.heap.size, 5, none⟩ = some (.int .i64 ((rc me 3 i : Nat) : Int)) := by rw [cell_of_heap hea]; rfl
  have a6 : wa.cell? ⟨w.heap.size, 6, none⟩ = some (.int .i64 ((rc me 4 i : Nat) : Int)) := by rw [cell_of_heap hea]; rfl
  have a7 : wa.cell? ⟨w.heap.size, 7, none⟩ = some (.int .i64 (cm.k.num : Int)) := by rw [cell_of_heap hea]; rfl
  have a8 : wa.cell? ⟨w.heap.size, 8, none⟩ = some (.string cm.word) := by rw [cell_of_heap hea]; rfl
  have a9 : wa.cell? ⟨w.heap.size, 9, none⟩ = some (.int .i64 (cm.count : Int)) := by rw [cell_of_heap hea]; rfl
  have HBA : Hid (Below w.heap.size w wa) := hba
  have HPA := HP.out wa.drew hba.drew
  have HPH : Hid _ := HPA
  have HEA : Hid (wa.heap[w.heap.size]? = some (.cells #[.int .i64 (me : Int), .int .i64 ((i : Int) + 1), .int .i64 ((rc me 0 i : Nat) : Int), .int .i64 ((rc me 1 i : Nat) : Int), .int .i64 ((rc me 2 i : Nat) : Int), .int .i64 ((rc me 3 i : Nat) : Int), .int .i64 ((rc me 4 i : Nat) : Int), .int .i64 (cm.k.num : Int), .string cm.word, .int .i64 (cm.count : Int)] 122 (0, 0))) := hea
  have HK : Hid (∀ w2 g cap, w2.heap[rb]? = some (.cells (C.setIfInBounds 11 (.slice (some ⟨g, 0, none⟩) (its.length + 1) cap)) T (0, 0)) → Upd [some rb, wv.ownBlock] wa.drew w2 → w2.cell? ⟨rb, 10, none⟩ = some (.int .i64 0) ∧ w2.heap[w.heap.size]? = some (.cells #[.int .i64 (me : Int), .int .i64 ((i : Int) + 1), .int .i64 ((rc me 0 i : Nat) : Int), .int .i64 ((rc me 1 i : Nat) : Int), .int .i64 ((rc me 2 i : Nat) : Int), .int .i64 ((rc me 3 i : Nat) : Int), .int .i64 ((rc me 4 i : Nat) : Int), .int .i64 (cm.k.num : Int), .string cm.word, .int .i64 (cm.count : Int)] 122 (0, 0))) := fun w2 g cap h1 h2 => by
    refine ⟨by rw [cell_of_heap h1, Array.getElem?_setIfInBounds_ne (by omega)]; exact H10.out, (h2.block w.heap.size (by show w.heap.size < wa.heap.size; omega) fun hm => ?_).trans HEA.out⟩
    simp only [List.mem_cons, List.not_mem_nil, or_false, Option.some.injEq] at hm
    rcases hm with h | h
    · omega
    · have := hwl _ h.symm; omega
  clear c10 hba hea HPA HP
  generalize hb0 : w.heap.size = b0 at *
  generalize hr0 : ((rc me 0 i : Nat) : Int) = r0 at *
  generalize hr1 : ((rc me 1 i : Nat) : Int) = r1 at *
  generalize hr2 : ((rc me 2 i : Nat) : Int) = r2 at *
  generalize hr3 : ((rc me 3 i : Nat) : Int) = r3 at *
  generalize hr4 : ((rc me 4 i : Nat) : Int) = r4 at *
  go_region_held3 (fun w' => w'.cell? ⟨rb, 10, none⟩ = some (.int .i64 0) ∧ w'.cell? ⟨b0, 0, none⟩ = some (.int .i64 (me : Int)) ∧ w'.cell? ⟨b0, 1, none⟩ = some (.int .i64 ((i : Int) + 1)) ∧ w'.cell? ⟨b0, 2, none⟩ = some (.int .i64 r0) ∧ w'.cell? ⟨b0, 3, none⟩ = some (.int .i64 r1) ∧ w'.cell? ⟨b0, 4, none⟩ = some (.int .i64 r2) ∧ w'.cell? ⟨b0, 5, none⟩ = some (.int .i64 r3) ∧ w'.cell? ⟨b0, 6, none⟩ = some (.int .i64 r4) ∧ w'.cell? ⟨b0, 7, none⟩ = some (.int .i64 (cm.k.num : Int)) ∧ w'.cell? ⟨b0, 8, none⟩ = some (.string cm.word) ∧ w'.cell? ⟨b0, 9, none⟩ = some (.int .i64 (cm.count : Int)))
    (first
      | exact ⟨a10, a0, a1, a2, a3, a4, a5, a6, a7, a8, a9⟩
      | exact ⟨k10, by rw [cell_of_heap kh]; rfl, by rw [cell_of_heap kh]; rfl, by rw [cell_of_heap kh]; rfl, by rw [cell_of_heap kh]; rfl, by rw [cell_of_heap kh]; rfl, by rw [cell_of_heap kh]; rfl, by rw [cell_of_heap kh]; rfl, by rw [cell_of_heap kh]; rfl, by rw [cell_of_heap kh]; rfl, by rw [cell_of_heap kh]; rfl⟩
      | go_keep)
    (first
      | (go_at_call 89; refine Calls.mono HPH.out ?_; rintro e w2 ⟨rfl, g, cap, o1, o2, o3, o4, o5⟩; obtain ⟨k10, kh⟩ := HK.out w2 g cap o4 o5))
  go_end0
  refine ⟨rfl, g, cap, o1, ?_, o3, o4, (Upd.of_below (S := [some rb, wv.ownBlock]) (by rw [hb0]; exact HBA.out.drew)).trans o5 (fun i hi => .inl hi)⟩
  rcases o2 with h | h
  · exact .inl h
  · exact .inr (by have : wa.drew.heap.size = wa.heap.size := rfl; omega)

end Go.Proofs.YtckmppkdpnhodaaGreatDoor

namespace Go.Proofs.YtckmppkdpnhodaaGreatDoor
set_option linter.unusedVariables false
set_option linter.unusedSimpArgs false
open Go.RowKit Go.Proofs

attribute [local go_sem ↓] Go.wp_at_zero Go.wp_at_succ

end Go.Proofs.YtckmppkdpnhodaaGreatDoor

namespace Go.Proofs.YtckmppkdpnhodaaGreatDoor
set_option linter.unusedVariables false
set_option linter.unusedSimpArgs false
open Go.RowKit Go.Proofs Go.MuLone

/-- The replica locked. -/
structure Lkd (w : World) (rb n me : Nat) (log : List Cm) (ev wv : Value) (wl : World) : Prop where
  size : wl.heap.size = w.heap.size
  rbk : wl.heap[rb]? = some (.cells ((repC n me log.length ev wv).setIfInBounds 0 (.int .i32 1)) 113 (0, 0))
  verbs : VerbsAt wl
  erow : wl.ownsRow 0 122 10 ev log.length (logCells me log)
  wrow : wl.ownsRow 0 171 12 wv (log.length * (n - 1)) (boxCells n me log)

theorem Lkd.below {w : World} {rb n me : Nat} {log : List Cm} {ev wv : Value} {wl W : World} (h : Lkd w rb n me log ev wv wl) (hb : Below wl.heap.size wl W) (hs : W.heap.size = W.heap.size := rfl) :
    W.heap[rb]? = some (.cells ((repC n me log.length ev wv).setIfInBounds 0 (.int .i32 1)) 113 (0, 0)) ∧ W.ownsRow 0 122 10 ev log.length (logCells me log) ∧ W.ownsRow 0 171 12 wv (log.length * (n - 1)) (boxCells n me log) :=
  ⟨(hb.block rb (Array.getElem?_eq_some_iff.1 h.rbk).1).trans h.rbk, (Upd.of_below (S := []) hb).owns h.erow (by simp), (Upd.of_below (S := []) hb).owns h.wrow (by simp)⟩

/-- The door: what was locked is unlocked. -/
theorem unlocked {w W : World} {rb n me : Nat} {log : List Cm} {ev wv : Value} (hb : Below w.heap.size (w.setCell ⟨rb, 0, none⟩ (.int .i32 1)) W) (hm : w.heap[rb]? = some (.cells (repC n me log.length ev wv) 113 (0, 0))) :
    W.heap[rb]? = some (.cells ((repC n me log.length ev wv).setIfInBounds 0 (.int .i32 1)) 113 (0, 0)) :=
  (hb.block rb (Array.getElem?_eq_some_iff.1 hm).1).trans (heap_setCell_same hm _)

end Go.Proofs.YtckmppkdpnhodaaGreatDoor

namespace Go.Proofs.YtckmppkdpnhodaaGreatDoor
set_option linter.unusedVariables false
set_option linter.unusedSimpArgs false
open Go.RowKit Go.Proofs Go.MuLone

theorem PowAt.lock {w : World} (h : PowAt w) {rb : Nat} (hr : rb ≠ 3) (v : Value) (o : Nat) : PowAt (w.setCell ⟨rb, o, none⟩ v) := by
  unfold PowAt Lib.TabIs World.var? at h ⊢
  rw [Tryz.gPow] at h ⊢
  simp only [Option.bind_some] at h ⊢
  rw [Below.heap_setCell _ _ _ _ (fun e => hr e.symm)]
  exact h

theorem RepM.nePow {w : World} {rb n me : Nat} {log : List Cm} {F : Nat → Prop} {ev wv : Value} (h : RepM w rb n me log F ev wv) (hp : PowAt w) : rb ≠ 3 := fun e => by
  subst e
  have := Lib.TabIs.cell hp Tryz.gPow 0 (by decide)
  rw [cell_of_heap h.rbk] at this
  simp [repC] at this

end Go.Proofs.YtckmppkdpnhodaaGreatDoor

namespace Go.Proofs.YtckmppkdpnhodaaGreatDoor
set_option linter.unusedVariables false
set_option linter.unusedSimpArgs false
open Go.RowKit Go.Proofs Go.Shelf

attribute [local go_sem] Oper.semAt_some

set_option maxRecDepth 100000 in
set_option maxHeartbeats 2000000 in
theorem values1G (n : Nat) (hn : 1 ≤ n) (l Bs n₀ : Nat) (ev : Value) (log : List En) (h8 : log.length ≤ 4294967296) (J Jx : List En → World → Prop) (W : World) (hev : ∀ b, ev.ownBlock = some b → b < n₀)
    (hJ : AbidesFrom W.heap.size J)
    (hY : ∀ pre x W1, J pre W1 → pre.length < log.length → YieldAt Fence.wide (n - 1) Tryz.prog l #[x.val] W1 fun e W' =>
      (e = .returned (.bool true) ∧ J (pre ++ [x]) W' ∧ Below n₀ W1 W') ∨ (e = .returned (.bool false) ∧ Jx (pre ++ [x]) W'))
    (hBs : W.cell? ⟨Bs, 0, none⟩ = some ev) (hrow : W.ownsRow 0 122 10 ev log.length (enRow log)) (hn0 : n₀ ≤ W.heap.size) (h0 : J [] W) :
    CallsIn Fence.wide n Tryz.prog 131 #[.func (.yield l) #[] #[], .pointer (some ⟨Bs, 0, none⟩)] W fun e W' => (∃ v, e = .returned v) ∧
      ((∃ ys, ys = log ∧ J ys W') ∨ (∃ pre, pre <+: log ∧ Jx pre W')) := by
  have hro : Fence.wide.round = none := rfl
  obtain ⟨pe, cape, hev'⟩ : ∃ p c, ev = .slice p log.length c := by
    rcases hrow.2 with ⟨h1, h0⟩ | ⟨g, cap', _, h1, _⟩
    · rw [h0]; exact ⟨_, _, h1⟩
    · exact ⟨_, _, h1⟩
  have HR : Hid (W.ownsRow 0 122 10 ev log.length (enRow log)) := hrow
  have HE : Hid (ev = .slice pe log.length cape) := hev'
  have HEB : Hid (∀ b, ev.ownBlock = some b → b < n₀) := hev
  have HJ : Hid (AbidesFrom W.heap.size J) := hJ
  rw [hev'] at hBs
  clear hrow hev hev' hJ
  refine callsIn_of_wp Tryz.func131 rfl trivial ?_ hro
  simp only [Tryz.ntmps131, List.size_toArray, List.length_cons, List.length_nil, Nat.reduceAdd, Nat.reduceSub, Array.replicate_succ, Array.replicate_zero, List.push_toArray, List.append_toArray, List.nil_append, List.cons_append]
  gi_wp2
  gi_loopw [7] (fun i wr => ∃ k : Nat, k ≤ log.length ∧ i = .int .i64 k ∧ Hid (J (log.take k) wr) ∧ Hid (Below n₀ W wr)) (fun i _ => log.length - (intOf i).toNat)
  case atStart => exact ⟨0, Nat.zero_le _, rfl, h0, Below.refl _ _⟩
  case round =>
    obtain ⟨k, hk, rfl, hJs, hnx⟩ := hrel
    by_cases hlt : k < log.length
    · have hrw : wr.ownsRow 0 122 10 ev log.length (enRow log) := by
        refine ⟨HR.out.1, ?_⟩
        rcases HR.out.2 with h1 | ⟨g, cap', cur, h1, hb, hg, rest⟩
        · exact .inl h1
        · exact .inr ⟨g, cap', cur, h1, hb, by rw [hnx.out.block g (HEB.out g (by rw [h1]; rfl))]; exact hg, rest⟩
      obtain ⟨g, cap, hge, hgl, e0, e1, e2, e3, e4, e5, e6, e7, e8, e9⟩ := en_cells hrw hlt
      rw [HE.out] at hge
      obtain ⟨rfl, -, rfl⟩ : pe = some ⟨g, 0, none⟩ ∧ True ∧ cape = cap := by simpa using hge
      clear hge hrw
      have hJ1 : ∀ o, J (log.take k) (wr.alloc o) := fun o => HJ.out _ _ _ none hJs.out (World.grownBy_alloc wr o none) (fun r e => by cases e)
      obtain ⟨fn, tmps, assign, body, hy, hR⟩ := hY _ log[k] (wr.alloc (.cells #[.int .i64 (log[k].org : Int), .int .i64 (log[k].seq : Int), .int .i64 (log[k].ah.a : Int), .int .i64 (log[k].ah.b : Int), .int .i64 (log[k].ah.c : Int), .int .i64 (log[k].ah.d : Int), .int .i64 (log[k].ah.e : Int), .int .i64 (log[k].c.k.num : Int), .string log[k].c.word, .int .i64 (log[k].c.count : Int)] 122)) (hJ1 _) (by rw [List.length_take]; omega)
      simp only [En.val] at hy
      have HS : Hid (log.take (k + 1) = log.take k ++ [log[k]]) := by
        show _ = _
        rw [take_snoc' log k hlt]
      have HJS : Hid (∀ o, Below n₀ wr (wr.alloc o)) := fun o => (Below.refl _ wr).alloc (Nat.le_trans hn0 (by have := hnx.out.size; omega)) o
      generalize ((log[k].ah.a : Nat) : Int) = r0 at *
      generalize ((log[k].ah.b : Nat) : Int) = r1 at *
      generalize ((log[k].ah.c : Nat) : Int) = r2 at *
      generalize ((log[k].ah.d : Nat) : Int) = r3 at *
      generalize ((log[k].ah.e : Nat) : Int) = r4 at *
      clear hJ1
      gi_wp2
      refine hR.mono ?_
      rintro e W3 (⟨rfl, hJ3, hk3⟩ | ⟨rfl, hJx3⟩)
      · gi_wp2
        go_roundw
        case rel => exact ⟨k + 1, by omega, by go_num, (by rw [HS.out]; exact hJ3 : J _ _), hnx.out.trans ((HJS.out _).trans hk3)⟩
        case measure => simp [intOf]; omega
      · gi_wp2
        refine bodyPost_ret (results_none rfl _ _ _) rfl ?_
        exact ⟨⟨_, rfl⟩, .inr ⟨_, ⟨_, List.take_append_drop (k + 1) _⟩, by rw [HS.out]; exact hJx3⟩⟩
    · obtain rfl : k = log.length := by omega
      gi_wp2
      go_end0
      exact ⟨⟨_, rfl⟩, .inl ⟨_, rfl, by have := hJs.out; rwa [List.take_of_length_le (by omega)] at this⟩⟩

/-- slices.Values over the log's entries: all of them, in order, whatever the loop's body does to what was made since. -/
theorem valuesG (n : Nat) (hn : 1 ≤ n) (Bs n₀ : Nat) (ev : Value) (log : List En) (h8 : log.length ≤ 4294967296) (w : World) (hBs : Bs < w.heap.size) (hn₀ : n₀ ≤ w.heap.size)
    (hc : w.cell? ⟨Bs, 0, none⟩ = some ev) (hev : ∀ b, ev.ownBlock = some b → b < n₀) (hrow : w.ownsRow 0 122 10 ev log.length (enRow log)) :
    SeqStopsK Fence.wide n Tryz.prog 131 #[.pointer (some ⟨Bs, 0, none⟩)] (fun x : En => #[x.val]) (Below n₀) (fun ys => ys = log) (fun pre => pre <+: log) log.length w := fun l J Jx W hW hJ _ hY h0 => by
  have hrw : W.ownsRow 0 122 10 ev log.length (enRow log) := (Upd.of_below (S := []) hW).owns hrow (by simp)
  exact values1G n hn l Bs n₀ ev log h8 J Jx W hev hJ hY ((hW.cell (p := ⟨Bs, 0, none⟩) hBs).trans hc) hrw (Nat.le_trans hn₀ hW.size) h0

end Go.Proofs.YtckmppkdpnhodaaGreatDoor
