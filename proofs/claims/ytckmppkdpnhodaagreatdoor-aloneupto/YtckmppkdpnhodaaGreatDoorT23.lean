/-
  The iterator over a replica's log: slices.Values at its entries; (*Log).All. Contracts of (Reach).Join, (Reach).Has. A region that draws its order, inside a round of a range over a function: by the laws of a region outside of one.
-/
import Derived.Test.YtckmppkdpnhodaaGreatDoorT22
import Derived.RangeFuncNested
import Derived.RangeFuncBound
import Derived.RangeFuncCalls
import Derived.RangeFuncLeaves
import Derived.Shelf.Abstract
import Derived.Shelf.RegionOpen
import Derived.WalkKit
import Derived.OwnWalkIn
import Derived.TacticsInMore
import Derived.LoopNIn
import Derived.LoopIn
import Derived.OrdersIn
import Derived.OrdersHeld
namespace Go.Proofs.YtckmppkdpnhodaaGreatDoor
set_option linter.unusedVariables false
set_option linter.unusedSimpArgs false
open Go.RowKit Go.Proofs Go.Shelf

attribute [local go_sem] Oper.semAt_some

/-- An entry of a replica that hears nothing: which of its commands, and the command. -/
structure EnT where
  i : Nat
  c : Cm
  hi : i < 1000
  hc : CmOk c

/-- A reach in which only the replica me has commands: its j-th number. -/
def rc (me j i : Nat) : Nat := if j = me then i else 0

def entVal (me : Nat) (x : EnT) : Value :=
  .agg #[.int .i64 (me : Int), .int .i64 ((x.i : Int) + 1), .int .i64 ((rc me 0 x.i : Nat) : Int), .int .i64 ((rc me 1 x.i : Nat) : Int), .int .i64 ((rc me 2 x.i : Nat) : Int), .int .i64 ((rc me 3 x.i : Nat) : Int), .int .i64 ((rc me 4 x.i : Nat) : Int), .int .i64 (x.c.k.num : Int), .string x.c.word, .int .i64 (x.c.count : Int)]

/-- The entries of a log. -/
def entsOf (log : List Cm) (h8 : log.length ≤ 8) (hok : ∀ c ∈ log, CmOk c) : List EnT :=
  (List.finRange log.length).map fun (i : Fin log.length) => ⟨i.1, log[i.1]'i.2, by have := i.2; omega, hok _ (List.getElem_mem _)⟩

theorem entsOf_length {log : List Cm} {h8 : log.length ≤ 8} {hok : ∀ c ∈ log, CmOk c} : (entsOf log h8 hok).length = log.length := by simp [entsOf]

theorem entsOf_get {log : List Cm} {h8 : log.length ≤ 8} {hok : ∀ c ∈ log, CmOk c} {k : Nat} (h : k < log.length) : (entsOf log h8 hok)[k]'(by rw [entsOf_length]; exact h) = ⟨k, log[k], by omega, hok _ (List.getElem_mem _)⟩ := by
  simp [entsOf]

set_option maxRecDepth 100000 in
set_option maxHeartbeats 2000000 in
theorem values1_in (n : Nat) (hn : 1 ≤ n) (l Bs n₀ me : Nat) (ev : Value) (log : List Cm) (h8 : log.length ≤ 8) (hok : ∀ c ∈ log, CmOk c) (J Jx : List EnT → World → Prop) (W : World) (hev : ∀ b, ev.ownBlock = some b → b < n₀)
    (hJ : AbidesFrom W.heap.size J)
    (hY : ∀ pre x W1, J pre W1 → pre.length < log.length → YieldAt Fence.wide (n - 1) Tryz.prog l #[entVal me x] W1 fun e W' =>
      (e = .returned (.bool true) ∧ J (pre ++ [x]) W' ∧ Below n₀ W1 W') ∨ (e = .returned (.bool false) ∧ Jx (pre ++ [x]) W'))
    (hBs : W.cell? ⟨Bs, 0, none⟩ = some ev) (hrow : W.ownsRow 0 122 10 ev log.length (logCells me log)) (hn0 : n₀ ≤ W.heap.size) (h0 : J [] W) :
    CallsIn Fence.wide n Tryz.prog 131 #[.func (.yield l) #[] #[], .pointer (some ⟨Bs, 0, none⟩)] W fun e W' => (∃ v, e = .returned v) ∧
      ((∃ ys, ys = entsOf log h8 hok ∧ J ys W') ∨ (∃ pre, pre <+: entsOf log h8 hok ∧ Jx pre W')) := by
  have hro : Fence.wide.round = none := rfl
  obtain ⟨pe, cape, hev'⟩ : ∃ p c, ev = .slice p log.length c := by
    rcases hrow.2 with ⟨h1, h0⟩ | ⟨g, cap', _, h1, _⟩
    · rw [h0]; exact ⟨_, _, h1⟩
    · exact ⟨_, _, h1⟩
  have HR : Hid (W.ownsRow 0 122 10 ev log.length (logCells me log)) := hrow
  have HE : Hid (ev = .slice pe log.length cape) := hev'
  have HEB : Hid (∀ b, ev.ownBlock = some b → b < n₀) := hev
  have HJ : Hid (AbidesFrom W.heap.size J) := hJ
  rw [hev'] at hBs
  clear hrow hev hev' hJ
  have hlen : (entsOf log h8 hok).length = log.length := entsOf_length
  refine callsIn_of_wp Tryz.func131 rfl trivial ?_ hro
  simp only [Tryz.ntmps131, List.size_toArray, List.length_cons, List.length_nil, Nat.reduceAdd, Nat.reduceSub, Array.replicate_succ, Array.replicate_zero, List.push_toArray, List.append_toArray, List.nil_append, List.cons_append]
  gi_wp2
  gi_loopw [7] (fun i wr => ∃ k : Nat, k ≤ log.length ∧ i = .int .i64 k ∧ Hid (J ((entsOf log h8 hok).take k) wr) ∧ Hid (Below n₀ W wr)) (fun i _ => log.length - (intOf i).toNat)
  case atStart => exact ⟨0, Nat.zero_le _, rfl, h0, Below.refl _ _⟩
  case round =>
    obtain ⟨k, hk, rfl, hJs, hnx⟩ := hrel
    by_cases hlt : k < log.length
    · have hrw : wr.ownsRow 0 122 10 ev log.length (logCells me log) := by
        refine ⟨HR.out.1, ?_⟩
        rcases HR.out.2 with h1 | ⟨g, cap', cur, h1, hb, hg, rest⟩
        · exact .inl h1
        · exact .inr ⟨g, cap', cur, h1, hb, by rw [hnx.out.block g (HEB.out g (by rw [h1]; rfl))]; exact hg, rest⟩
      obtain ⟨g, cap, hge, hgl, e0, e1, e2, e3, e4, e5, e6, e7, e8, e9⟩ := entry_cells hrw hlt
      rw [HE.out] at hge
      obtain ⟨rfl, -, rfl⟩ : pe = some ⟨g, 0, none⟩ ∧ True ∧ cape = cap := by simpa using hge
      clear hge hrw
      replace e2 : wr.cell? ⟨g, k * 10 + 2, none⟩ = some (.int .i64 ((rc me 0 k : Nat) : Int)) := e2
      replace e3 : wr.cell? ⟨g, k * 10 + 3, none⟩ = some (.int .i64 ((rc me 1 k : Nat) : Int)) := e3
      replace e4 : wr.cell? ⟨g, k * 10 + 4, none⟩ = some (.int .i64 ((rc me 2 k : Nat) : Int)) := e4
      replace e5 : wr.cell? ⟨g, k * 10 + 5, none⟩ = some (.int .i64 ((rc me 3 k : Nat) : Int)) := e5
      replace e6 : wr.cell? ⟨g, k * 10 + 6, none⟩ = some (.int .i64 ((rc me 4 k : Nat) : Int)) := e6
      have hJ1 : ∀ o, J ((entsOf log h8 hok).take k) (wr.alloc o) := fun o => HJ.out _ _ _ none hJs.out (World.grownBy_alloc wr o none) (fun r e => by cases e)
      obtain ⟨fn, tmps, assign, body, hy, hR⟩ := hY _ ⟨k, log[k], by omega, hok _ (List.getElem_mem _)⟩ (wr.alloc (.cells #[.int .i64 (me : Int), .int .i64 ((k : Int) + 1), .int .i64 ((rc me 0 k : Nat) : Int), .int .i64 ((rc me 1 k : Nat) : Int), .int .i64 ((rc me 2 k : Nat) : Int), .int .i64 ((rc me 3 k : Nat) : Int), .int .i64 ((rc me 4 k : Nat) : Int), .int .i64 (log[k].k.num : Int), .string log[k].word, .int .i64 (log[k].count : Int)] 122)) (hJ1 _) (by rw [List.length_take, hlen]; omega)
      simp only [entVal] at hy
      have HS : Hid ((entsOf log h8 hok).take (k + 1) = (entsOf log h8 hok).take k ++ [⟨k, log[k], by omega, hok _ (List.getElem_mem _)⟩]) := by
        show _ = _
        rw [take_snoc' _ k (by omega), entsOf_get hlt]
      have HJS : Hid (∀ o, Below n₀ wr (wr.alloc o)) := fun o => (Below.refl _ wr).alloc (Nat.le_trans hn0 (by have := hnx.out.size; omega)) o
      generalize ((rc me 0 k : Nat) : Int) = r0 at *
      generalize ((rc me 1 k : Nat) : Int) = r1 at *
      generalize ((rc me 2 k : Nat) : Int) = r2 at *
      generalize ((rc me 3 k : Nat) : Int) = r3 at *
      generalize ((rc me 4 k : Nat) : Int) = r4 at *
      clear hJ1
      gi_wp2
      refine hR.mono ?_
      rintro e W3 (⟨rfl, hJ3, hk3⟩ | ⟨rfl, hJx3⟩)
      · gi_wp2
        go_roundw
        case rel => exact ⟨k + 1, by omega, by go_num, (by rw [HS.out]; exact hJ3 : J _ _), hnx.out.trans ((HJS.out _).trans hk3)⟩
        case measure => simp [intOf]; omega
      · gi_wp2
        refine bodyPost_ret (results_none rfl _ _ _) rfl ?_
        exact ⟨⟨_, rfl⟩, .inr ⟨_, ⟨_, List.take_append_drop (k + 1) _⟩, by rw [HS.out]; exact hJx3⟩⟩
    · obtain rfl : k = log.length := by omega
      gi_wp2
      go_end0
      exact ⟨⟨_, rfl⟩, .inl ⟨_, rfl, by have := hJs.out; rwa [List.take_of_length_le (by omega)] at this⟩⟩

/-- slices.Values over the log's entries: all of them, in order, whatever the loop's body does to what was made since. -/
theorem values_stops (n : Nat) (hn : 1 ≤ n) (Bs n₀ me : Nat) (ev : Value) (log : List Cm) (h8 : log.length ≤ 8) (hok : ∀ c ∈ log, CmOk c) (w : World) (hBs : Bs < w.heap.size) (hn₀ : n₀ ≤ w.heap.size)
    (hc : w.cell? ⟨Bs, 0, none⟩ = some ev) (hev : ∀ b, ev.ownBlock = some b → b < n₀) (hrow : w.ownsRow 0 122 10 ev log.length (logCells me log)) :
    SeqStopsK Fence.wide n Tryz.prog 131 #[.pointer (some ⟨Bs, 0, none⟩)] (fun x : EnT => #[entVal me x]) (Below n₀) (fun ys => ys = entsOf log h8 hok) (fun pre => pre <+: entsOf log h8 hok) log.length w := fun l J Jx W hW hJ _ hY h0 => by
  have hrw : W.ownsRow 0 122 10 ev log.length (logCells me log) := (Upd.of_below (S := []) hW).owns hrow (by simp)
  exact values1_in n hn l Bs n₀ me ev log h8 hok J Jx W hev hJ hY ((hW.cell (p := ⟨Bs, 0, none⟩) hBs).trans hc) hrw (Nat.le_trans hn₀ hW.size) h0

set_option maxHeartbeats 1000000 in
theorem values_any (a : Option Addr) (len cap : Nat) (w : World) :
    Calls Tryz.prog 93 #[.slice a len cap] w fun e w' => e = .returned (.func (.func 131) #[] #[.pointer (some ⟨w.heap.size, 0, none⟩)]) ∧ w' = w.alloc (.cells #[.slice a len cap] 101) := by
  go_enter Tryz.func93, Tryz.ntmps93
  go_wp2
  go_ret
  exact ⟨rfl, rfl⟩

set_option maxHeartbeats 1000000 in
theorem all_any (rb : Nat) (a : Option Addr) (len cap : Nat) (w : World) (h4 : w.cell? ⟨rb, 4, none⟩ = some (.slice a len cap)) :
    Calls Tryz.prog 52 #[.pointer (some ⟨rb, 4, none⟩)] w fun e w' => e = .returned (.func (.func 131) #[] #[.pointer (some ⟨w.heap.size, 0, none⟩)]) ∧ w' = w.alloc (.cells #[.slice a len cap] 101) := by
  go_enter Tryz.func52, Tryz.ntmps52
  go_wp2_with (go_at_call 93; refine (values_any _ _ _ _).mono ?_; rintro e w' ⟨rfl, rfl⟩)
  go_ret
  exact ⟨rfl, rfl⟩

end Go.Proofs.YtckmppkdpnhodaaGreatDoor

namespace Go.Proofs.YtckmppkdpnhodaaGreatDoor
set_option linter.unusedVariables false
set_option linter.unusedSimpArgs false
open Go.RowKit Go.Proofs

attribute [local go_sem ↓] Go.wp_at_zero Go.wp_at_succ

def ag5 (a0 a1 a2 a3 a4 : Nat) : Value := .agg #[.int .i64 (a0 : Int), .int .i64 (a1 : Int), .int .i64 (a2 : Int), .int .i64 (a3 : Int), .int .i64 (a4 : Int)]

set_option maxRecDepth 100000 in
set_option maxHeartbeats 4000000 in
theorem join_any (a0 a1 a2 a3 a4 b0 b1 b2 b3 b4 : Nat) (w : World) :
    Calls Tryz.prog 129 #[.agg #[.int .i64 (a0 : Int), .int .i64 (a1 : Int), .int .i64 (a2 : Int), .int .i64 (a3 : Int), .int .i64 (a4 : Int)], .agg #[.int .i64 (b0 : Int), .int .i64 (b1 : Int), .int .i64 (b2 : Int), .int .i64 (b3 : Int), .int .i64 (b4 : Int)]] w fun e w' =>
      e = .returned (ag5 (max a0 b0) (max a1 b1) (max a2 b2) (max a3 b3) (max a4 b4)) ∧ Below w.heap.size w w' := by
  have i0 : ∀ w, (Instr.index 102 (.agg #[.int .i64 (b0 : Int), .int .i64 (b1 : Int), .int .i64 (b2 : Int), .int .i64 (b3 : Int), .int .i64 (b4 : Int)]) (.int .i64 0)).run Tryz.prog w = .ok (.int .i64 (b0 : Int)) w := fun _ => by kernel_rfl
  have i1 : ∀ w, (Instr.index 102 (.agg #[.int .i64 (b0 : Int), .int .i64 (b1 : Int), .int .i64 (b2 : Int), .int .i64 (b3 : Int), .int .i64 (b4 : Int)]) (.int .i64 1)).run Tryz.prog w = .ok (.int .i64 (b1 : Int)) w := fun _ => by kernel_rfl
  have i2 : ∀ w, (Instr.index 102 (.agg #[.int .i64 (b0 : Int), .int .i64 (b1 : Int), .int .i64 (b2 : Int), .int .i64 (b3 : Int), .int .i64 (b4 : Int)]) (.int .i64 2)).run Tryz.prog w = .ok (.int .i64 (b2 : Int)) w := fun _ => by kernel_rfl
  have i3 : ∀ w, (Instr.index 102 (.agg #[.int .i64 (b0 : Int), .int .i64 (b1 : Int), .int .i64 (b2 : Int), .int .i64 (b3 : Int), .int .i64 (b4 : Int)]) (.int .i64 3)).run Tryz.prog w = .ok (.int .i64 (b3 : Int)) w := fun _ => by kernel_rfl
  have i4 : ∀ w, (Instr.index 102 (.agg #[.int .i64 (b0 : Int), .int .i64 (b1 : Int), .int .i64 (b2 : Int), .int .i64 (b3 : Int), .int .i64 (b4 : Int)]) (.int .i64 4)).run Tryz.prog w = .ok (.int .i64 (b4 : Int)) w := fun _ => by kernel_rfl
  go_enter Tryz.func129, Tryz.ntmps129
  go_wp2
  go_loopw [9] (fun v wr => ∃ j : Nat, j ≤ 5 ∧ v = .int .i64 j ∧ Hid (wr.heap[w.heap.size]? = some (.cells #[.int .i64 ((if 0 < j then max a0 b0 else a0 : Nat) : Int), .int .i64 ((if 1 < j then max a1 b1 else a1 : Nat) : Int), .int .i64 ((if 2 < j then max a2 b2 else a2 : Nat) : Int), .int .i64 ((if 3 < j then max a3 b3 else a3 : Nat) : Int), .int .i64 ((if 4 < j then max a4 b4 else a4 : Nat) : Int)] 104 (0, 0)) ∧ wr.heap[w.heap.size + 2]? = some (.cells #[.int .i64 0, .int .i64 0, .int .i64 0, .int .i64 0, .int .i64 0] 104 (0, 0)) ∧ Below w.heap.size w wr)) (fun v _ => 5 - (intOf v).toNat)
  case atStart =>
    refine ⟨0, by omega, rfl, ?_, ?_, ?_⟩
    · exact (Below.heap_alloc _ _ _ (by simp; omega)).trans ((Below.heap_alloc _ _ _ (by simp)).trans (heap_alloc_new w _))
    · have := heap_alloc_new ((w.alloc (.cells #[.int .i64 (a0 : Int), .int .i64 (a1 : Int), .int .i64 (a2 : Int), .int .i64 (a3 : Int), .int .i64 (a4 : Int)] 104)).alloc (.cells #[.int .i64 (b0 : Int), .int .i64 (b1 : Int), .int .i64 (b2 : Int), .int .i64 (b3 : Int), .int .i64 (b4 : Int)] 104)) (.cells #[.int .i64 0, .int .i64 0, .int .i64 0, .int .i64 0, .int .i64 0] 104)
      simpa only [World.size_alloc] using this
    · exact (((Below.refl _ w).alloc (Nat.le_refl _) _).alloc (by simp) _).alloc (by simp; omega) _
  case round =>
    obtain ⟨j, hj, rfl, hH⟩ := hrel
    obtain ⟨h1, h2, h3⟩ := hH.out
    rcases (show j = 0 ∨ j = 1 ∨ j = 2 ∨ j = 3 ∨ j = 4 ∨ j = 5 by omega) with rfl | rfl | rfl | rfl | rfl | rfl
    · have c0 : wr.cell? ⟨w.heap.size, 0, none⟩ = some (.int .i64 (a0 : Int)) := by rw [cell_of_heap h1]; rfl
      have f0 : wr.frozen? ⟨w.heap.size, 0, none⟩ = false := frozen_of_heap h1 0
      have hm : ((max a0 b0 : Nat) : Int) = max (a0 : Int) (b0 : Int) := by omega
      have HS : Hid ((wr.setCell ⟨w.heap.size, 0, none⟩ (.int .i64 (max (a0 : Int) (b0 : Int)))).heap[w.heap.size]? = some (.cells #[.int .i64 ((if 0 < 1 then max a0 b0 else a0 : Nat) : Int), .int .i64 ((if 1 < 1 then max a1 b1 else a1 : Nat) : Int), .int .i64 ((if 2 < 1 then max a2 b2 else a2 : Nat) : Int), .int .i64 ((if 3 < 1 then max a3 b3 else a3 : Nat) : Int), .int .i64 ((if 4 < 1 then max a4 b4 else a4 : Nat) : Int)] 104 (0, 0)) ∧ (wr.setCell ⟨w.heap.size, 0, none⟩ (.int .i64 (max (a0 : Int) (b0 : Int)))).heap[w.heap.size + 2]? = some (.cells #[.int .i64 0, .int .i64 0, .int .i64 0, .int .i64 0, .int .i64 0] 104 (0, 0)) ∧ Below w.heap.size w (wr.setCell ⟨w.heap.size, 0, none⟩ (.int .i64 (max (a0 : Int) (b0 : Int))))) := by
        refine ⟨?_, ?_, ?_⟩
        · rw [← hm, heap_setCell_same h1]; rfl
        · rw [Below.heap_setCell _ _ _ _ (by simp)]; exact h2
        · exact h3.setCell (by simp) _
      clear h1 h2 h3 hm
      go_wp2
      go_roundw
      case rel => exact ⟨1, by omega, rfl, HS⟩
      case measure => simp [intOf]
    · have c0 : wr.cell? ⟨w.heap.size, 1, none⟩ = some (.int .i64 (a1 : Int)) := by rw [cell_of_heap h1]; rfl
      have f0 : wr.frozen? ⟨w.heap.size, 1, none⟩ = false := frozen_of_heap h1 1
      have hm : ((max a1 b1 : Nat) : Int) = max (a1 : Int) (b1 : Int) := by omega
      have HS : Hid ((wr.setCell ⟨w.heap.size, 1, none⟩ (.int .i64 (max (a1 : Int) (b1 : Int)))).heap[w.heap.size]? = some (.cells #[.int .i64 ((if 0 < 2 then max a0 b0 else a0 : Nat) : Int), .int .i64 ((if 1 < 2 then max a1 b1 else a1 : Nat) : Int), .int .i64 ((if 2 < 2 then max a2 b2 else a2 : Nat) : Int), .int .i64 ((if 3 < 2 then max a3 b3 else a3 : Nat) : Int), .int .i64 ((if 4 < 2 then max a4 b4 else a4 : Nat) : Int)] 104 (0, 0)) ∧ (wr.setCell ⟨w.heap.size, 1, none⟩ (.int .i64 (max (a1 : Int) (b1 : Int)))).heap[w.heap.size + 2]? = some (.cells #[.int .i64 0, .int .i64 0, .int .i64 0, .int .i64 0, .int .i64 0] 104 (0, 0)) ∧ Below w.heap.size w (wr.setCell ⟨w.heap.size, 1, none⟩ (.int .i64 (max (a1 : Int) (b1 : Int))))) := by
        refine ⟨?_, ?_, ?_⟩
        · rw [← hm, heap_setCell_same h1]; rfl
        · rw [Below.heap_setCell _ _ _ _ (by simp)]; exact h2
        · exact h3.setCell (by simp) _
      clear h1 h2 h3 hm
      go_wp2
      go_roundw
      case rel => exact ⟨2, by omega, rfl, HS⟩
      case measure => simp [intOf]
    · have c0 : wr.cell? ⟨w.heap.size, 2, none⟩ = some (.int .i64 (a2 : Int)) := by rw [cell_of_heap h1]; rfl
      have f0 : wr.frozen? ⟨w.heap.size, 2, none⟩ = false := frozen_of_heap h1 2
      have hm : ((max a2 b2 : Nat) : Int) = max (a2 : Int) (b2 : Int) := by omega
      have HS : Hid ((wr.setCell ⟨w.heap.size, 2, none⟩ (.int .i64 (max (a2 : Int) (b2 : Int)))).heap[w.heap.size]? = some (.cells #[.int .i64 ((if 0 < 3 then max a0 b0 else a0 : Nat) : Int), .int .i64 ((if 1 < 3 then max a1 b1 else a1 : Nat) : Int), .int .i64 ((if 2 < 3 then max a2 b2 else a2 : Nat) : Int), .int .i64 ((if 3 < 3 then max a3 b3 else a3 : Nat) : Int), .int .i64 ((if 4 < 3 then max a4 b4 else a4 : Nat) : Int)] 104 (0, 0)) ∧ (wr.setCell ⟨w.heap.size, 2, none⟩ (.int .i64 (max (a2 : Int) (b2 : Int)))).heap[w.heap.size + 2]? = some (.cells #[.int .i64 0, .int .i64 0, .int .i64 0, .int .i64 0, .int .i64 0] 104 (0, 0)) ∧ Below w.heap.size w (wr.setCell ⟨w.heap.size, 2, none⟩ (.int .i64 (max (a2 : Int) (b2 : Int))))) := by
        refine ⟨?_, ?_, ?_⟩
        · rw [← hm, heap_setCell_same h1]; rfl
        · rw [Below.heap_setCell _ _ _ _ (by simp)]; exact h2
        · exact h3.setCell (by simp) _
      clear h1 h2 h3 hm
      go_wp2
      go_roundw
      case rel => exact ⟨3, by omega, rfl, HS⟩
      case measure => simp [intOf]
    · have c0 : wr.cell? ⟨w.heap.size, 3, none⟩ = some (.int .i64 (a3 : Int)) := by rw [cell_of_heap h1]; rfl
      have f0 : wr.frozen? ⟨w.heap.size, 3, none⟩ = false := frozen_of_heap h1 3
      have hm : ((max a3 b3 : Nat) : Int) = max (a3 : Int) (b3 : Int) := by omega
      have HS : Hid ((wr.setCell ⟨w.heap.size, 3, none⟩ (.int .i64 (max (a3 : Int) (b3 : Int)))).heap[w.heap.size]? = some (.cells #[.int .i64 ((if 0 < 4 then max a0 b0 else a0 : Nat) : Int), .int .i64 ((if 1 < 4 then max a1 b1 else a1 : Nat) : Int), .int .i64 ((if 2 < 4 then max a2 b2 else a2 : Nat) : Int), .int .i64 ((if 3 < 4 then max a3 b3 else a3 : Nat) : Int), .int .i64 ((if 4 < 4 then max a4 b4 else a4 : Nat) : Int)] 104 (0, 0)) ∧ (wr.setCell ⟨w.heap.size, 3, none⟩ (.int .i64 (max (a3 : Int) (b3 : Int)))).heap[w.heap.size + 2]? = some (.cells #[.int .i64 0, .int .i64 0, .int .i64 0, .int .i64 0, .int .i64 0] 104 (0, 0)) ∧ Below w.heap.size w (wr.setCell ⟨w.heap.size, 3, none⟩ (.int .i64 (max (a3 : Int) (b3 : Int))))) := by
        refine ⟨?_, ?_, ?_⟩
        · rw [← hm, heap_setCell_same h1]; rfl
        · rw [Below.heap_setCell _ _ _ _ (by simp)]; exact h2
        · exact h3.setCell (by simp) _
      clear h1 h2 h3 hm
      go_wp2
      go_roundw
      case rel => exact ⟨4, by omega, rfl, HS⟩
      case measure => simp [intOf]
    · have c0 : wr.cell? ⟨w.heap.size, 4, none⟩ = some (.int .i64 (a4 : Int)) := by rw [cell_of_heap h1]; rfl
      have f0 : wr.frozen? ⟨w.heap.size, 4, none⟩ = false := frozen_of_heap h1 4
      have hm : ((max a4 b4 : Nat) : Int) = max (a4 : Int) (b4 : Int) := by omega
      have HS : Hid ((wr.setCell ⟨w.heap.size, 4, none⟩ (.int .i64 (max (a4 : Int) (b4 : Int)))).heap[w.heap.size]? = some (.cells #[.int .i64 ((if 0 < 5 then max a0 b0 else a0 : Nat) : Int), .int .i64 ((if 1 < 5 then max a1 b1 else a1 : Nat) : Int), .int .i64 ((if 2 < 5 then max a2 b2 else a2 : Nat) : Int), .int .i64 ((if 3 < 5 then max a3 b3 else a3 : Nat) : Int), .int .i64 ((if 4 < 5 then max a4 b4 else a4 : Nat) : Int)] 104 (0, 0)) ∧ (wr.setCell ⟨w.heap.size, 4, none⟩ (.int .i64 (max (a4 : Int) (b4 : Int)))).heap[w.heap.size + 2]? = some (.cells #[.int .i64 0, .int .i64 0, .int .i64 0, .int .i64 0, .int .i64 0] 104 (0, 0)) ∧ Below w.heap.size w (wr.setCell ⟨w.heap.size, 4, none⟩ (.int .i64 (max (a4 : Int) (b4 : Int))))) := by
        refine ⟨?_, ?_, ?_⟩
        · rw [← hm, heap_setCell_same h1]; rfl
        · rw [Below.heap_setCell _ _ _ _ (by simp)]; exact h2
        · exact h3.setCell (by simp) _
      clear h1 h2 h3 hm
      go_wp2
      go_roundw
      case rel => exact ⟨5, by omega, rfl, HS⟩
      case measure => simp [intOf]
    · have c0 : wr.cell? ⟨w.heap.size, 0, none⟩ = some (.int .i64 ((max a0 b0 : Nat) : Int)) := by rw [cell_of_heap h1]; rfl
      have c1 : wr.cell? ⟨w.heap.size, 1, none⟩ = some (.int .i64 ((max a1 b1 : Nat) : Int)) := by rw [cell_of_heap h1]; rfl
      have c2 : wr.cell? ⟨w.heap.size, 2, none⟩ = some (.int .i64 ((max a2 b2 : Nat) : Int)) := by rw [cell_of_heap h1]; rfl
      have c3 : wr.cell? ⟨w.heap.size, 3, none⟩ = some (.int .i64 ((max a3 b3 : Nat) : Int)) := by rw [cell_of_heap h1]; rfl
      have c4 : wr.cell? ⟨w.heap.size, 4, none⟩ = some (.int .i64 ((max a4 b4 : Nat) : Int)) := by rw [cell_of_heap h1]; rfl
      have d0 : wr.cell? ⟨w.heap.size + 2, 0, none⟩ = some (.int .i64 0) := by rw [cell_of_heap h2]; rfl
      have d1 : wr.cell? ⟨w.heap.size + 2, 1, none⟩ = some (.int .i64 0) := by rw [cell_of_heap h2]; rfl
      have d2 : wr.cell? ⟨w.heap.size + 2, 2, none⟩ = some (.int .i64 0) := by rw [cell_of_heap h2]; rfl
      have d3 : wr.cell? ⟨w.heap.size + 2, 3, none⟩ = some (.int .i64 0) := by rw [cell_of_heap h2]; rfl
      have d4 : wr.cell? ⟨w.heap.size + 2, 4, none⟩ = some (.int .i64 0) := by rw [cell_of_heap h2]; rfl
      have g0 : wr.frozen? ⟨w.heap.size + 2, 0, none⟩ = false := frozen_of_heap h2 0
      have g1 : wr.frozen? ⟨w.heap.size + 2, 1, none⟩ = false := frozen_of_heap h2 1
      have g2 : wr.frozen? ⟨w.heap.size + 2, 2, none⟩ = false := frozen_of_heap h2 2
      have g3 : wr.frozen? ⟨w.heap.size + 2, 3, none⟩ = false := frozen_of_heap h2 3
      have g4 : wr.frozen? ⟨w.heap.size + 2, 4, none⟩ = false := frozen_of_heap h2 4
      clear h1 h2
      generalize hq0 : max a0 b0 = m0 at *
      have HQ0 : Hid (max a0 b0 = m0) := hq0
      clear hq0
      generalize hq1 : max a1 b1 = m1 at *
      have HQ1 : Hid (max a1 b1 = m1) := hq1
      clear hq1
      generalize hq2 : max a2 b2 = m2 at *
      have HQ2 : Hid (max a2 b2 = m2) := hq2
      clear hq2
      generalize hq3 : max a3 b3 = m3 at *
      have HQ3 : Hid (max a3 b3 = m3) := hq3
      clear hq3
      generalize hq4 : max a4 b4 = m4 at *
      have HQ4 : Hid (max a4 b4 = m4) := hq4
      clear hq4
      go_wp2
      exact bodyPost_ret (v := .agg #[.int .i64 (m0 : Int), .int .i64 (m1 : Int), .int .i64 (m2 : Int), .int .i64 (m3 : Int), .int .i64 (m4 : Int)]) (by simp [results, Tryz.results129, go_sem, d0, d1, d2, d3, d4]) rfl ⟨by rw [HQ0.out, HQ1.out, HQ2.out, HQ3.out, HQ4.out]; rfl, by repeat' first | exact h3 | refine Below.setCell ?_ (by first | (simp; done) | (simp; omega)) _⟩

set_option maxRecDepth 100000 in
set_option maxHeartbeats 1000000 in
theorem reachHas_any (a0 a1 a2 a3 a4 me s : Nat) (hme : me < 5) (m : Nat) (hm : [a0, a1, a2, a3, a4][me]? = some m) (w : World) :
    Calls Tryz.prog 130 #[.agg #[.int .i64 (a0 : Int), .int .i64 (a1 : Int), .int .i64 (a2 : Int), .int .i64 (a3 : Int), .int .i64 (a4 : Int)], .int .i64 (me : Int), .int .i64 (s : Int)] w fun e w' =>
      e = .returned (.bool (decide (s ≤ m))) ∧ Below w.heap.size w w' := by
  have hc : ∀ (cs : Array Value) (t : TypeId), cs[me]? = some (.int .i64 (m : Int)) → (w.alloc (.cells cs t)).cell? ⟨w.heap.size, me, none⟩ = some (.int .i64 (m : Int)) := fun cs t h => by
    rw [cell_of_heap (heap_alloc_new w (.cells cs t))]; exact h
  have hc' := hc #[.int .i64 (a0 : Int), .int .i64 (a1 : Int), .int .i64 (a2 : Int), .int .i64 (a3 : Int), .int .i64 (a4 : Int)] 104 (by
    rcases (show me = 0 ∨ me = 1 ∨ me = 2 ∨ me = 3 ∨ me = 4 by omega) with rfl | rfl | rfl | rfl | rfl <;> (simp at hm; subst hm; rfl))
  have k0 : (0 : Int) ≤ (me : Int) := by omega
  have k5 : (me : Int) < 5 := by omega
  clear hc hm
  go_enter Tryz.func130, Tryz.ntmps130
  go_wp2
  go_ret
  exact ⟨ret_bool (by simp), (Below.refl _ w).alloc (Nat.le_refl _) _⟩

end Go.Proofs.YtckmppkdpnhodaaGreatDoor

namespace Go.Proofs.YtckmppkdpnhodaaGreatDoor
set_option linter.unusedVariables false
set_option linter.unusedSimpArgs false
open Go.RowKit Go.Proofs

section
variable {P : Program} {md : Region.Mode} {ops : Array Oper} {Q : Exit → Act → World → Prop} {l n : Nat}

theorem rowsIn_of {row : String} {args : Array Value} {w : World} {R : Value → World → Prop} (h : Rows P row args w R) : RowsIn (Fence.wide.inRound l) n P row args w R :=
  fun c cs _ => let ⟨v, w', r, s⟩ := h c cs; ⟨v, w', r, stepsIn_wide.2 s⟩

theorem operIn_of {o : Oper} {a : Act} {w : World} {K : Act → World → Prop} (hd : ∀ c, o.op ≠ .defer c) (h : o.wp P a w K Q) : o.wpIn (Fence.wide.inRound l) n P a w K Q := by
  refine ⟨fun _ _ => trivial, ?_⟩
  rw [Fence.inRound_round, Oper.semAt_some l _ _ hd]
  unfold Oper.wp at h
  generalize (execOp a.eval o).run P w = r at *
  have hdp : (Fence.wide.inRound l).depth.isSome = true → 1 ≤ n := fun e => by cases e
  cases r with
  | ok x w' =>
    cases x <;> simp only [Oper.upon, Oper.uponIn] at h ⊢ <;>
      first
        | exact h
        | exact ⟨hdp, CallsIn.inRound l (callsIn_wide.2 h)⟩
        | exact ⟨hdp, rowsIn_of h⟩
        | exact h.elim
  | halt x w' => cases x <;> simp only [Oper.upon, Oper.uponIn] at h ⊢ <;> exact h

theorem opIn_of (hQ : ¬ LetsOut Q) {i : Nat} (hd : ∀ o, ops[i]? = some o → ∀ c, o.op ≠ .defer c) {K K' : Act → World → Prop} (hK : ∀ a w, K a w → K' a w) {a : Act} {w : World} (h : wpOp P ops Q i K a w) : wpOpIn (Fence.wide.inRound l) n P ops Q i K' a w := by
  unfold wpOp at h
  unfold wpOpIn
  cases ho : ops[i]? with
  | none => rw [ho] at h; exact hK _ _ h
  | some o =>
    rw [ho] at h
    simp only at h ⊢
    split at h
    · rename_i hw
      rw [if_pos hw]
      rcases h with h | h
      · exact (operIn_of (hd o ho) h).imp id (fun h' => (Oper.wpIn_mono hK ⟨fun _ _ => trivial, h'⟩).2)
      · exact absurd h.2 hQ
    · rename_i hw
      rw [if_neg hw]
      exact ⟨fun _ _ => trivial, hK _ _ h⟩

theorem anyIn_of (hQ : ¬ LetsOut Q) (hd : ∀ (i : Nat) (o : Oper), ops[i]? = some o → ∀ c, o.op ≠ .defer c) : ∀ (fuel : Nat) (listed : Array Bool) (a : Act) (w : World), wpAny P md ops Q fuel listed a w → wpAnyIn (Fence.wide.inRound l) n P md ops Q fuel listed a w
  | 0, _, _, _, h => h
  | fuel + 1, listed, a, w, h => ⟨h.1, fun i hi => opIn_of hQ (hd i) (fun a' w' h' => anyIn_of hQ hd fuel _ a' w' h') (h.2 i hi)⟩

/-- No operation of the region defers. -/
def noDefer (ops : Array Oper) : Bool := ops.toList.all fun o => match o.op with | .defer _ => false | _ => true

theorem noDefer_spec (h : noDefer ops = true) : ∀ (i : Nat) (o : Oper), ops[i]? = some o → ∀ c, o.op ≠ .defer c := fun i o ho c e => by
  simp only [noDefer, List.all_eq_true] at h
  have := h o (by
    obtain ⟨hi, rfl⟩ := Array.getElem?_eq_some_iff.1 ho
    simp)
  rw [e] at this
  cases this

/-- A region that draws its order, in a round. -/
theorem regionIn_held {S : World → Prop} {id : Nat} {a : Act} {w : World} (hm : P.follows .mixedOrders = true) (hQ : ¬ LetsOut Q) (hd : noDefer ops = true)
    (h : wpAnyH P .any ops Q S ops.size (Array.replicate ops.size false) a w.drew) : (Code.region id ops true).wpIn (Fence.wide.inRound l) n P Q a w :=
  wpIn_region_any hm (anyIn_of hQ (noDefer_spec hd) _ _ _ _ (wpAny_of_held _ _ _ _ h))
end

end Go.Proofs.YtckmppkdpnhodaaGreatDoor
