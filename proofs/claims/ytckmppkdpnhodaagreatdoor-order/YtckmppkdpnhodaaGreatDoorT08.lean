/-
  A map of the program's, keyed by strings, as a function from strings. The iterator over a replica's log: slices.Values at its entries; (*Log).All. Contracts of (Reach).Join, (Reach).Has. A region that draws its order, inside a round of a range over a function: by the laws of a region outside of one.
-/
import Derived.Test.YtckmppkdpnhodaaGreatDoorT07
import Derived.Maps.OwnSet
import Derived.Maps.OwnIn
import Derived.StringKeys
import Derived.Sort.KeysCollected
import Derived.RangeFuncNested
import Derived.RangeFuncBound
import Derived.RangeFuncCalls
import Derived.RangeFuncLeaves
import Derived.Shelf.Abstract
import Derived.Shelf.RegionOpen
import Derived.WalkKit
import Derived.OwnWalkIn
import Derived.TacticsInMore
import Derived.LoopNIn
import Derived.LoopIn
import Derived.OrdersIn
import Derived.OrdersHeld
namespace Go.Proofs.YtckmppkdpnhodaaGreatDoor
set_option linter.unusedVariables false
set_option linter.unusedSimpArgs false
open Go.RowKit Go.Proofs Go.Maps

/-- Every element reads as itself. -/
def heldR : Value → Option (DataW Value × List MemPlace) := fun v => some (.held v, [])

def MapIs (w : World) (b n : Nat) (f : List UInt8 → Option Value) : Prop :=
  ∃ D : DataW Value, w.ownsMap Tryz.prog 9 heldR b n D ∧ (∀ s, has D (.string s) = (f s).isSome) ∧ ∀ s v, f s = some v → ∀ z, D.atKey (.string s) z = .held v

theorem str_keyed : Keyed Tryz.prog 9 := string_keyed Tryz.underlying9

theorem MapIs.made (w : World) : MapIs (w.alloc (.map #[] 0)) w.heap.size 0 (fun _ => none) :=
  ⟨.map [], World.ownsMap_made w _ _ _, fun _ => rfl, fun _ _ h => by cases h⟩

theorem MapIs.lt {w : World} {b n : Nat} {f : List UInt8 → Option Value} (h : MapIs w b n f) : b < w.heap.size := by
  obtain ⟨D, hD, -⟩ := h
  exact hD.lt

theorem MapIs.same {w w' : World} {b n : Nat} {f : List UInt8 → Option Value} (h : MapIs w b n f) (hs : w'.heap[b]? = w.heap[b]?) : MapIs w' b n f := by
  obtain ⟨D, ⟨es, clock, hb, F, hn, hD⟩, h2, h3⟩ := h
  exact ⟨D, ⟨es, clock, hs.trans hb, F, hn, hD⟩, h2, h3⟩

theorem MapIs.below {w w' : World} {b n : Nat} {f : List UInt8 → Option Value} (h : MapIs w b n f) (hb : Below w.heap.size w w') : MapIs w' b n f := h.same (hb.block b h.lt)

theorem MapIs.mono {w : World} {b n n' : Nat} {f : List UInt8 → Option Value} (h : MapIs w b n f) (hn : n ≤ n') : MapIs w b n' f := by
  obtain ⟨D, hD, h2, h3⟩ := h
  exact ⟨D, hD.mono hn, h2, h3⟩

theorem held_val {D : DataW Value} {f : List UInt8 → Option Value} (h2 : ∀ s, has D (.string s) = (f s).isSome) (h3 : ∀ s v, f s = some v → ∀ z, D.atKey (.string s) z = .held v) {v z : Value} {ps : List MemPlace} {s : List UInt8} (hv : heldR v = some (D.atKey (.string s) (.held z), ps)) : v = (f s).getD z := by
  simp only [heldR, Option.some.injEq, Prod.mk.injEq] at hv
  have hv1 := hv.1
  cases hf : f s with
  | none =>
    have hh := h2 s
    rw [hf] at hh
    rw [atKey_of_not_has hh] at hv1
    simpa using hv1
  | some y =>
    rw [h3 _ _ hf] at hv1
    simpa using hv1

theorem isKey_str (s : List UInt8) : WideAt.IsKeyLit (.string s) := trivial

theorem MapIs.look {w : World} {b n : Nat} {f : List UInt8 → Option Value} (h : MapIs w b n f) {t e : TypeId} (ht : Tryz.prog.underlying t = some (.map 9 e)) {z : Value} (hz : (zeroValue e).run Tryz.prog w = .ok z w) (s : ByteArray) (hs : s.size ≤ maxLen) :
    (Instr.lookup t (.map (some b)) (.string s) false).run Tryz.prog w = .ok ((f s.data.toList).getD z) w := by
  obtain ⟨D, hD, h2, h3⟩ := h
  obtain ⟨v, ps, hr, hv⟩ := hD.lookup str_keyed ht hz (zd := .held z) (zp := []) rfl (WideMaps.keyOf_string_mk Tryz.underlying9 hs)
  rw [hr, held_val h2 h3 hv]

theorem MapIs.lookOk {w : World} {b n : Nat} {f : List UInt8 → Option Value} (h : MapIs w b n f) {t e : TypeId} (ht : Tryz.prog.underlying t = some (.map 9 e)) {z : Value} (hz : (zeroValue e).run Tryz.prog w = .ok z w) (s : ByteArray) (hs : s.size ≤ maxLen) :
    (Instr.lookup t (.map (some b)) (.string s) true).run Tryz.prog w = .ok (.tuple #[(f s.data.toList).getD z, .bool (f s.data.toList).isSome]) w := by
  obtain ⟨D, hD, h2, h3⟩ := h
  obtain ⟨v, ps, hr, hv⟩ := hD.look_ok str_keyed ht hz (zd := .held z) (zp := []) rfl (WideMaps.keyOf_string_mk Tryz.underlying9 hs)
  rw [hr, h2, held_val h2 h3 hv]

/-- A function from strings, at one of them another value. -/
def fput (f : List UInt8 → Option Value) (s : List UInt8) (v : Value) : List UInt8 → Option Value := fun x => if x = s then some v else f x

theorem MapIs.put {w : World} {b n : Nat} {f : List UInt8 → Option Value} (h : MapIs w b n f) {t e : TypeId} (ht : Tryz.prog.underlying t = some (.map 9 e)) (hn : n < maxLen) (s : ByteArray) (hs : s.size ≤ maxLen) (v : Value) :
    ∃ w', (Instr.mapUpdate t (.map (some b)) (.string s) v).run Tryz.prog w = .ok () w' ∧ MapIs w' b (n + 1) (fput f s.data.toList v) ∧ w.grownBy w' (some b) := by
  obtain ⟨D, hD, h2, h3⟩ := h
  obtain ⟨w', hr, hD', hg⟩ := hD.update str_keyed ht hn (WideMaps.keyOf_string_mk Tryz.underlying9 hs) (d := .held v) (ps := []) rfl
  have hm := hD.isMap
  refine ⟨w', hr, ⟨_, hD', fun x => ?_, fun x y hy z => ?_⟩, hg⟩
  · by_cases hx : x = s.data.toList
    · subst hx; rw [has_put_same hm (isKey_str _)]; simp [fput]
    · rw [has_put_other (fun e => hx (by cases e; rfl)), h2]; simp [fput, hx]
  · by_cases hx : x = s.data.toList
    · subst hx
      simp only [fput, if_pos, Option.some.injEq] at hy
      rw [atKey_put_same hm (isKey_str _), hy]
    · simp only [fput, if_neg hx] at hy
      rw [atKey_put_other (fun e => hx (by cases e; rfl)), h3 x y hy]

/-- The keys: each once. -/
theorem MapIs.keys {w : World} {b n : Nat} {f : List UInt8 → Option Value} (h : MapIs w b n f) :
    ∃ D : DataW Value, w.ownsMap Tryz.prog 9 heldR b n D ∧ Maps.size D ≤ n ∧ (strKeys D).Nodup ∧ ∀ s, s ∈ strKeys D ↔ (f s).isSome = true := by
  obtain ⟨D, hD, h2, h3⟩ := h
  obtain ⟨es, hes, hap⟩ := hD.tidy str_keyed
  obtain ⟨es', hes', hk'⟩ := hD.keysOf
  have he : es' = es := by rw [hes] at hes'; injection hes' with h; exact h.symm
  subst he
  have hk : ∀ p ∈ es', ∃ x, p.1 = .string x := fun p hp => by
    obtain ⟨v, hv⟩ := hk' p hp
    obtain ⟨x, -, hx, -⟩ := Maps.keyOf_str Tryz.underlying9 hv
    exact ⟨x, hx⟩
  refine ⟨D, hD, hD.size_le, ?_, fun s => ?_⟩
  · rw [hes]
    show (es'.map fun p => Go.strOf p.1).Nodup
    refine List.pairwise_map.2 (hap.imp_of_mem fun {p q} hp' hq' hne e => hne ?_)
    obtain ⟨a, ha⟩ := hk p hp'
    obtain ⟨b, hb⟩ := hk q hq'
    rw [ha, hb] at e ⊢
    exact congrArg _ e
  · rw [← h2, hes, has_eq, List.any_eq_true]
    show s ∈ es'.map (fun p => Go.strOf p.1) ↔ _
    rw [List.mem_map]
    refine ⟨fun ⟨p, hp, e⟩ => ⟨p, hp, ?_⟩, fun ⟨p, hp, e⟩ => ⟨p, hp, ?_⟩⟩
    · obtain ⟨a, ha⟩ := hk p hp
      rw [ha] at e ⊢
      simp only [Go.strOf] at e
      subst e
      exact WideAt.sameKey_self (isKey_str _)
    · obtain ⟨a, ha⟩ := hk p hp
      have := (WideAt.sameKey_iff (isKey_str s)).1 e
      rw [this]; rfl

end Go.Proofs.YtckmppkdpnhodaaGreatDoor

namespace Go.Proofs.YtckmppkdpnhodaaGreatDoor
set_option linter.unusedVariables false
set_option linter.unusedSimpArgs false
open Go.RowKit Go.Proofs Go.Shelf

attribute [local go_sem] Oper.semAt_some

/-- An entry of a replica that hears nothing: which of its commands, and the command. -/
structure EnT where
  i : Nat
  c : Cm
  hi : i < 1000
  hc : CmOk c

/-- A reach in which only the replica me has commands: its j-th number. -/
def rc (me j i : Nat) : Nat := if j = me then i else 0

set_option maxHeartbeats 1000000 in
theorem values_any (a : Option Addr) (len cap : Nat) (w : World) :
    Calls Tryz.prog 93 #[.slice a len cap] w fun e w' => e = .returned (.func (.func 131) #[] #[.pointer (some ⟨w.heap.size, 0, none⟩)]) ∧ w' = w.alloc (.cells #[.slice a len cap] 101) := by
  go_enter Tryz.func93, Tryz.ntmps93
  go_wp2
  go_ret
  exact ⟨rfl, rfl⟩

set_option maxHeartbeats 1000000 in
theorem all_any (rb : Nat) (a : Option Addr) (len cap : Nat) (w : World) (h4 : w.cell? ⟨rb, 4, none⟩ = some (.slice a len cap)) :
    Calls Tryz.prog 52 #[.pointer (some ⟨rb, 4, none⟩)] w fun e w' => e = .returned (.func (.func 131) #[] #[.pointer (some ⟨w.heap.size, 0, none⟩)]) ∧ w' = w.alloc (.cells #[.slice a len cap] 101) := by
  go_enter Tryz.func52, Tryz.ntmps52
  go_wp2_with (go_at_call 93; refine (values_any _ _ _ _).mono ?_; rintro e w' ⟨rfl, rfl⟩)
  go_ret
  exact ⟨rfl, rfl⟩

end Go.Proofs.YtckmppkdpnhodaaGreatDoor

namespace Go.Proofs.YtckmppkdpnhodaaGreatDoor
set_option linter.unusedVariables false
set_option linter.unusedSimpArgs false
open Go.RowKit Go.Proofs

attribute [local go_sem ↓] Go.wp_at_zero Go.wp_at_succ

def ag5 (a0 a1 a2 a3 a4 : Nat) : Value := .agg #[.int .i64 (a0 : Int), .int .i64 (a1 : Int), .int .i64 (a2 : Int), .int .i64 (a3 : Int), .int .i64 (a4 : Int)]

set_option maxRecDepth 100000 in
set_option maxHeartbeats 4000000 in
theorem join_any (a0 a1 a2 a3 a4 b0 b1 b2 b3 b4 : Nat) (w : World) :
    Calls Tryz.prog 129 #[.agg #[.int .i64 (a0 : Int), .int .i64 (a1 : Int), .int .i64 (a2 : Int), .int .i64 (a3 : Int), .int .i64 (a4 : Int)], .agg #[.int .i64 (b0 : Int), .int .i64 (b1 : Int), .int .i64 (b2 : Int), .int .i64 (b3 : Int), .int .i64 (b4 : Int)]] w fun e w' =>
      e = .returned (ag5 (max a0 b0) (max a1 b1) (max a2 b2) (max a3 b3) (max a4 b4)) ∧ Below w.heap.size w w' := by
  have i0 : ∀ w, (Instr.index 102 (.agg #[.int .i64 (b0 : Int), .int .i64 (b1 : Int), .int .i64 (b2 : Int), .int .i64 (b3 : Int), .int .i64 (b4 : Int)]) (.int .i64 0)).run Tryz.prog w = .ok (.int .i64 (b0 : Int)) w := fun _ => by kernel_rfl
  have i1 : ∀ w, (Instr.index 102 (.agg #[.int .i64 (b0 : Int), .int .i64 (b1 : Int), .int .i64 (b2 : Int), .int .i64 (b3 : Int), .int .i64 (b4 : Int)]) (.int .i64 1)).run Tryz.prog w = .ok (.int .i64 (b1 : Int)) w := fun _ => by kernel_rfl
  have i2 : ∀ w, (Instr.index 102 (.agg #[.int .i64 (b0 : Int), .int .i64 (b1 : Int), .int .i64 (b2 : Int), .int .i64 (b3 : Int), .int .i64 (b4 : Int)]) (.int .i64 2)).run Tryz.prog w = .ok (.int .i64 (b2 : Int)) w := fun _ => by kernel_rfl
  have i3 : ∀ w, (Instr.index 102 (.agg #[.int .i64 (b0 : Int), .int .i64 (b1 : Int), .int .i64 (b2 : Int), .int .i64 (b3 : Int), .int .i64 (b4 : Int)]) (.int .i64 3)).run Tryz.prog w = .ok (.int .i64 (b3 : Int)) w := fun _ => by kernel_rfl
  have i4 : ∀ w, (Instr.index 102 (.agg #[.int .i64 (b0 : Int), .int .i64 (b1 : Int), .int .i64 (b2 : Int), .int .i64 (b3 : Int), .int .i64 (b4 : Int)]) (.int .i64 4)).run Tryz.prog w = .ok (.int .i64 (b4 : Int)) w := fun _ => by kernel_rfl
  go_enter Tryz.func129, Tryz.ntmps129
  go_wp2
  go_loopw [9] (fun v wr => ∃ j : Nat, j ≤ 5 ∧ v = .int .i64 j ∧ Hid (wr.heap[w.heap.size]? = some (.cells #[.int .i64 ((if 0 < j then max a0 b0 else a0 : Nat) : Int), .int .i64 ((if 1 < j then max a1 b1 else a1 : Nat) : Int), .int .i64 ((if 2 < j then max a2 b2 else a2 : Nat) : Int), .int .i64 ((if 3 < j then max a3 b3 else a3 : Nat) : Int), .int .i64 ((if 4 < j then max a4 b4 else a4 : Nat) : Int)] 104 (0, 0)) ∧ wr.heap[w.heap.size + 2]? = some (.cells #[.int .i64 0, .int .i64 0, .int .i64 0, .int .i64 0, .int .i64 0] 104 (0, 0)) ∧ Below w.heap.size w wr)) (fun v _ => 5 - (intOf v).toNat)
  case atStart =>
    refine ⟨0, by omega, rfl, ?_, ?_, ?_⟩
    · exact (Below.heap_alloc _ _ _ (by simp; omega)).trans ((Below.heap_alloc _ _ _ (by simp)).trans (heap_alloc_new w _))
    · have := heap_alloc_new ((w.alloc (.cells #[.int .i64 (a0 : Int), .int .i64 (a1 : Int), .int .i64 (a2 : Int), .int .i64 (a3 : Int), .int .i64 (a4 : Int)] 104)).alloc (.cells #[.int .i64 (b0 : Int), .int .i64 (b1 : Int), .int .i64 (b2 : Int), .int .i64 (b3 : Int), .int .i64 (b4 : Int)] 104)) (.cells #[.int .i64 0, .int .i64 0, .int .i64 0, .int .i64 0, .int .i64 0] 104)
      simpa only [World.size_alloc] using this
    · exact (((Below.refl _ w).alloc (Nat.le_refl _) _).alloc (by simp) _).alloc (by simp; omega) _
  case round =>
    obtain ⟨j, hj, rfl, hH⟩ := hrel
    obtain ⟨h1, h2, h3⟩ := hH.out
    rcases (show j = 0 ∨ j = 1 ∨ j = 2 ∨ j = 3 ∨ j = 4 ∨ j = 5 by omega) with rfl | rfl | rfl | rfl | rfl | rfl
    · have c0 : wr.cell? ⟨w.heap.size, 0, none⟩ = some (.int .i64 (a0 : Int)) := by rw [cell_of_heap h1]; rfl
      have f0 : wr.frozen? ⟨w.heap.size, 0, none⟩ = false := frozen_of_heap h1 0
      have hm : ((max a0 b0 : Nat) : Int) = max (a0 : Int) (b0 : Int) := by omega
      have HS : Hid ((wr.setCell ⟨w.heap.size, 0, none⟩ (.int .i64 (max (a0 : Int) (b0 : Int)))).heap[w.heap.size]? = some (.cells #[.int .i64 ((if 0 < 1 then max a0 b0 else a0 : Nat) : Int), .int .i64 ((if 1 < 1 then max a1 b1 else a1 : Nat) : Int), .int .i64 ((if 2 < 1 then max a2 b2 else a2 : Nat) : Int), .int .i64 ((if 3 < 1 then max a3 b3 else a3 : Nat) : Int), .int .i64 ((if 4 < 1 then max a4 b4 else a4 : Nat) : Int)] 104 (0, 0)) ∧ (wr.setCell ⟨w.heap.size, 0, none⟩ (.int .i64 (max (a0 : Int) (b0 : Int)))).heap[w.heap.size + 2]? = some (.cells #[.int .i64 0, .int .i64 0, .int .i64 0, .int .i64 0, .int .i64 0] 104 (0, 0)) ∧ Below w.heap.size w (wr.setCell ⟨w.heap.size, 0, none⟩ (.int .i64 (max (a0 : Int) (b0 : Int))))) := by
        refine ⟨?_, ?_, ?_⟩
        · rw [← hm, heap_setCell_same h1]; rfl
        · rw [Below.heap_setCell _ _ _ _ (by simp)]; exact h2
        · exact h3.setCell (by simp) _
      clear h1 h2 h3 hm
      go_wp2
      go_roundw
      case rel => exact ⟨1, by omega, rfl, HS⟩
      case measure => simp [intOf]
    · have c0 : wr.cell? ⟨w.heap.size, 1, none⟩ = some (.int .i64 (a1 : Int)) := by rw [cell_of_heap h1]; rfl
      have f0 : wr.frozen? ⟨w.heap.size, 1, none⟩ = false := frozen_of_heap h1 1
      have hm : ((max a1 b1 : Nat) : Int) = max (a1 : Int) (b1 : Int) := by omega
      have HS : Hid ((wr.setCell ⟨w.heap.size, 1, none⟩ (.int .i64 (max (a1 : Int) (b1 : Int)))).heap[w.heap.size]? = some (.cells #[.int .i64 ((if 0 < 2 then max a0 b0 else a0 : Nat) : Int), .int .i64 ((if 1 < 2 then max a1 b1 else a1 : Nat) : Int), .int .i64 ((if 2 < 2 then max a2 b2 else a2 : Nat) : Int), .int .i64 ((if 3 < 2 then max a3 b3 else a3 : Nat) : Int), .int .i64 ((if 4 < 2 then max a4 b4 else a4 : Nat) : Int)] 104 (0, 0)) ∧ (wr.setCell ⟨w.heap.size, 1, none⟩ (.int .i64 (max (a1 : Int) (b1 : Int)))).heap[w.heap.size + 2]? = some (.cells #[.int .i64 0, .int .i64 0, .int .i64 0, .int .i64 0, .int .i64 0] 104 (0, 0)) ∧ Below w.heap.size w (wr.setCell ⟨w.heap.size, 1, none⟩ (.int .i64 (max (a1 : Int) (b1 : Int))))) := by
        refine ⟨?_, ?_, ?_⟩
        · rw [← hm, heap_setCell_same h1]; rfl
        · rw [Below.heap_setCell _ _ _ _ (by simp)]; exact h2
        · exact h3.setCell (by simp) _
      clear h1 h2 h3 hm
      go_wp2
      go_roundw
      case rel => exact ⟨2, by omega, rfl, HS⟩
      case measure => simp [intOf]
    · have c0 : wr.cell? ⟨w.heap.size, 2, none⟩ = some (.int .i64 (a2 : Int)) := by rw [cell_of_heap h1]; rfl
      have f0 : wr.frozen? ⟨w.heap.size, 2, none⟩ = false := frozen_of_heap h1 2
      have hm : ((max a2 b2 : Nat) : Int) = max (a2 : Int) (b2 : Int) := by omega
      have HS : Hid ((wr.setCell ⟨w.heap.size, 2, none⟩ (.int .i64 (max (a2 : Int) (b2 : Int)))).heap[w.heap.size]? = some (.cells #[.int .i64 ((if 0 < 3 then max a0 b0 else a0 : Nat) : Int), .int .i64 ((if 1 < 3 then max a1 b1 else a1 : Nat) : Int), .int .i64 ((if 2 < 3 then max a2 b2 else a2 : Nat) : Int), .int .i64 ((if 3 < 3 then max a3 b3 else a3 : Nat) : Int), .int .i64 ((if 4 < 3 then max a4 b4 else a4 : Nat) : Int)] 104 (0, 0)) ∧ (wr.setCell ⟨w.heap.size, 2, none⟩ (.int .i64 (max (a2 : Int) (b2 : Int)))).heap[w.heap.size + 2]? = some (.cells #[.int .i64 0, .int .i64 0, .int .i64 0, .int .i64 0, .int .i64 0] 104 (0, 0)) ∧ Below w.heap.size w (wr.setCell ⟨w.heap.size, 2, none⟩ (.int .i64 (max (a2 : Int) (b2 : Int))))) := by
        refine ⟨?_, ?_, ?_⟩
        · rw [← hm, heap_setCell_same h1]; rfl
        · rw [Below.heap_setCell _ _ _ _ (by simp)]; exact h2
        · exact h3.setCell (by simp) _
      clear h1 h2 h3 hm
      go_wp2
      go_roundw
      case rel => exact ⟨3, by omega, rfl, HS⟩
      case measure => simp [intOf]
    · have c0 : wr.cell? ⟨w.heap.size, 3, none⟩ = some (.int .i64 (a3 : Int)) := by rw [cell_of_heap h1]; rfl
      have f0 : wr.frozen? ⟨w.heap.size, 3, none⟩ = false := frozen_of_heap h1 3
      have hm : ((max a3 b3 : Nat) : Int) = max (a3 : Int) (b3 : Int) := by omega
      have HS : Hid ((wr.setCell ⟨w.heap.size, 3, none⟩ (.int .i64 (max (a3 : Int) (b3 : Int)))).heap[w.heap.size]? = some (.cells #[.int .i64 ((if 0 < 4 then max a0 b0 else a0 : Nat) : Int), .int .i64 ((if 1 < 4 then max a1 b1 else a1 : Nat) : Int), .int .i64 ((if 2 < 4 then max a2 b2 else a2 : Nat) : Int), .int .i64 ((if 3 < 4 then max a3 b3 else a3 : Nat) : Int), .int .i64 ((if 4 < 4 then max a4 b4 else a4 : Nat) : Int)] 104 (0, 0)) ∧ (wr.setCell ⟨w.heap.size, 3, none⟩ (.int .i64 (max (a3 : Int) (b3 : Int)))).heap[w.heap.size + 2]? = some (.cells #[.int .i64 0, .int .i64 0, .int .i64 0, .int .i64 0, .int .i64 0] 104 (0, 0)) ∧ Below w.heap.size w (wr.setCell ⟨w.heap.size, 3, none⟩ (.int .i64 (max (a3 : Int) (b3 : Int))))) := by
        refine ⟨?_, ?_, ?_⟩
        · rw [← hm, heap_setCell_same h1]; rfl
        · rw [Below.heap_setCell _ _ _ _ (by simp)]; exact h2
        · exact h3.setCell (by simp) _
      clear h1 h2 h3 hm
      go_wp2
      go_roundw
      case rel => exact ⟨4, by omega, rfl, HS⟩
      case measure => simp [intOf]
    · have c0 : wr.cell? ⟨w.heap.size, 4, none⟩ = some (.int .i64 (a4 : Int)) := by rw [cell_of_heap h1]; rfl
      have f0 : wr.frozen? ⟨w.heap.size, 4, none⟩ = false := frozen_of_heap h1 4
      have hm : ((max a4 b4 : Nat) : Int) = max (a4 : Int) (b4 : Int) := by omega
      have HS : Hid ((wr.setCell ⟨w.heap.size, 4, none⟩ (.int .i64 (max (a4 : Int) (b4 : Int)))).heap[w.heap.size]? = some (.cells #[.int .i64 ((if 0 < 5 then max a0 b0 else a0 : Nat) : Int), .int .i64 ((if 1 < 5 then max a1 b1 else a1 : Nat) : Int), .int .i64 ((if 2 < 5 then max a2 b2 else a2 : Nat) : Int), .int .i64 ((if 3 < 5 then max a3 b3 else a3 : Nat) : Int), .int .i64 ((if 4 < 5 then max a4 b4 else a4 : Nat) : Int)] 104 (0, 0)) ∧ (wr.setCell ⟨w.heap.size, 4, none⟩ (.int .i64 (max (a4 : Int) (b4 : Int)))).heap[w.heap.size + 2]? = some (.cells #[.int .i64 0, .int .i64 0, .int .i64 0, .int .i64 0, .int .i64 0] 104 (0, 0)) ∧ Below w.heap.size w (wr.setCell ⟨w.heap.size, 4, none⟩ (.int .i64 (max (a4 : Int) (b4 : Int))))) := by
        refine ⟨?_, ?_, ?_⟩
        · rw [← hm, heap_setCell_same h1]; rfl
        · rw [Below.heap_setCell _ _ _ _ (by simp)]; exact h2
        · exact h3.setCell (by simp) _
      clear h1 h2 h3 hm
      go_wp2
      go_roundw
      case rel => exact ⟨5, by omega, rfl, HS⟩
      case measure => simp [intOf]
    · have c0 : wr.cell? ⟨w.heap.size, 0, none⟩ = some (.int .i64 ((max a0 b0 : Nat) : Int)) := by rw [cell_of_heap h1]; rfl
      have c1 : wr.cell? ⟨w.heap.size, 1, none⟩ = some (.int .i64 ((max a1 b1 : Nat) : Int)) := by rw [cell_of_heap h1]; rfl
      have c2 : wr.cell? ⟨w.heap.size, 2, none⟩ = some (.int .i64 ((max a2 b2 : Nat) : Int)) := by rw [cell_of_heap h1]; rfl
      have c3 : wr.cell? ⟨w.heap.size, 3, none⟩ = some (.int .i64 ((max a3 b3 : Nat) : Int)) := by rw [cell_of_heap h1]; rfl
      have c4 : wr.cell? ⟨w.heap.size, 4, none⟩ = some (.int .i64 ((max a4 b4 : Nat) : Int)) := by rw [cell_of_heap h1]; rfl
      have d0 : wr.cell? ⟨w.heap.size + 2, 0, none⟩ = some (.int .i64 0) := by rw [cell_of_heap h2]; rfl
      have d1 : wr.cell? ⟨w.heap.size + 2, 1, none⟩ = some (.int .i64 0) := by rw [cell_of_heap h2]; rfl
      have d2 : wr.cell? ⟨w.heap.size + 2, 2, none⟩ = some (.int .i64 0) := by rw [cell_of_heap h2]; rfl
      have d3 : wr.cell? ⟨w.heap.size + 2, 3, none⟩ = some (.int .i64 0) := by rw [cell_of_heap h2]; rfl
      have d4 : wr.cell? ⟨w.heap.size + 2, 4, none⟩ = some (.int .i64 0) := by rw [cell_of_heap h2]; rfl
      have g0 : wr.frozen? ⟨w.heap.size + 2, 0, none⟩ = false := frozen_of_heap h2 0
      have g1 : wr.frozen? ⟨w.heap.size + 2, 1, none⟩ = false := frozen_of_heap h2 1
      have g2 : wr.frozen? ⟨w.heap.size + 2, 2, none⟩ = false := frozen_of_heap h2 2
      have g3 : wr.frozen? ⟨w.heap.size + 2, 3, none⟩ = false := frozen_of_heap h2 3
      have g4 : wr.frozen? ⟨w.heap.size + 2, 4, none⟩ = false := frozen_of_heap h2 4
      clear h1 h2
      generalize hq0 : max a0 b0 = m0 at *
      have HQ0 : Hid (max a0 b0 = m0) := hq0
      clear hq0
      generalize hq1 : max a1 b1 = m1 at *
      have HQ1 : Hid (max a1 b1 = m1) := hq1
      clear hq1
      generalize hq2 : max a2 b2 = m2 at *
      have HQ2 : Hid (max a2 b2 = m2) := hq2
      clear hq2
      generalize hq3 : max a3 b3 = m3 at *
      have HQ3 : Hid (max a3 b3 = m3) := hq3
      clear hq3
      generalize hq4 : max a4 b4 = m4 at *
      have HQ4 : Hid (max a4 b4 = m4) := hq4
      clear hq4
      go_wp2
      exact bodyPost_ret (v := .agg #[.int .i64 (m0 : Int), .int .i64 (m1 : Int), .int .i64 (m2 : Int), .int .i64 (m3 : Int), .int .i64 (m4 : Int)]) (by simp [results, Tryz.results129, go_sem, d0, d1, d2, d3, d4]) rfl ⟨by rw [HQ0.out, HQ1.out, HQ2.out, HQ3.out, HQ4.out]; rfl, by repeat' first | exact h3 | refine Below.setCell ?_ (by first | (simp; done) | (simp; omega)) _⟩

set_option maxRecDepth 100000 in
set_option maxHeartbeats 1000000 in
theorem reachHas_any (a0 a1 a2 a3 a4 me s : Nat) (hme : me < 5) (m : Nat) (hm : [a0, a1, a2, a3, a4][me]? = some m) (w : World) :
    Calls Tryz.prog 130 #[.agg #[.int .i64 (a0 : Int), .int .i64 (a1 : Int), .int .i64 (a2 : Int), .int .i64 (a3 : Int), .int .i64 (a4 : Int)], .int .i64 (me : Int), .int .i64 (s : Int)] w fun e w' =>
      e = .returned (.bool (decide (s ≤ m))) ∧ Below w.heap.size w w' := by
  have hc : ∀ (cs : Array Value) (t : TypeId), cs[me]? = some (.int .i64 (m : Int)) → (w.alloc (.cells cs t)).cell? ⟨w.heap.size, me, none⟩ = some (.int .i64 (m : Int)) := fun cs t h => by
    rw [cell_of_heap (heap_alloc_new w (.cells cs t))]; exact h
  have hc' := hc #[.int .i64 (a0 : Int), .int .i64 (a1 : Int), .int .i64 (a2 : Int), .int .i64 (a3 : Int), .int .i64 (a4 : Int)] 104 (by
    rcases (show me = 0 ∨ me = 1 ∨ me = 2 ∨ me = 3 ∨ me = 4 by omega) with rfl | rfl | rfl | rfl | rfl <;> (simp at hm; subst hm; rfl))
  have k0 : (0 : Int) ≤ (me : Int) := by omega
  have k5 : (me : Int) < 5 := by omega
  clear hc hm
  go_enter Tryz.func130, Tryz.ntmps130
  go_wp2
  go_ret
  exact ⟨ret_bool (by simp), (Below.refl _ w).alloc (Nat.le_refl _) _⟩

end Go.Proofs.YtckmppkdpnhodaaGreatDoor

namespace Go.Proofs.YtckmppkdpnhodaaGreatDoor
set_option linter.unusedVariables false
set_option linter.unusedSimpArgs false
open Go.RowKit Go.Proofs

section
variable {P : Program} {md : Region.Mode} {ops : Array Oper} {Q : Exit → Act → World → Prop} {l n : Nat}

theorem rowsIn_of {row : String} {args : Array Value} {w : World} {R : Value → World → Prop} (h : Rows P row args w R) : RowsIn (Fence.wide.inRound l) n P row args w R :=
  fun c cs _ => let ⟨v, w', r, s⟩ := h c cs; ⟨v, w', r, stepsIn_wide.2 s⟩

theorem operIn_of {o : Oper} {a : Act} {w : World} {K : Act → World → Prop} (hd : ∀ c, o.op ≠ .defer c) (h : o.wp P a w K Q) : o.wpIn (Fence.wide.inRound l) n P a w K Q := by
  refine ⟨fun _ _ => trivial, ?_⟩
  rw [Fence.inRound_round, Oper.semAt_some l _ _ hd]
  unfold Oper.wp at h
  generalize (execOp a.eval o).run P w = r at *
  have hdp : (Fence.wide.inRound l).depth.isSome = true → 1 ≤ n := fun e => by cases e
  cases r with
  | ok x w' =>
    cases x <;> simp only [Oper.upon, Oper.uponIn] at h ⊢ <;>
      first
        | exact h
        | exact ⟨hdp, CallsIn.inRound l (callsIn_wide.2 h)⟩
        | exact ⟨hdp, rowsIn_of h⟩
        | exact h.elim
  | halt x w' => cases x <;> simp only [Oper.upon, Oper.uponIn] at h ⊢ <;> exact h

theorem opIn_of (hQ : ¬ LetsOut Q) {i : Nat} (hd : ∀ o, ops[i]? = some o → ∀ c, o.op ≠ .defer c) {K K' : Act → World → Prop} (hK : ∀ a w, K a w → K' a w) {a : Act} {w : World} (h : wpOp P ops Q i K a w) : wpOpIn (Fence.wide.inRound l) n P ops Q i K' a w := by
  unfold wpOp at h
  unfold wpOpIn
  cases ho : ops[i]? with
  | none => rw [ho] at h; exact hK _ _ h
  | some o =>
    rw [ho] at h
    simp only at h ⊢
    split at h
    · rename_i hw
      rw [if_pos hw]
      rcases h with h | h
      · exact (operIn_of (hd o ho) h).imp id (fun h' => (Oper.wpIn_mono hK ⟨fun _ _ => trivial, h'⟩).2)
      · exact absurd h.2 hQ
    · rename_i hw
      rw [if_neg hw]
      exact ⟨fun _ _ => trivial, hK _ _ h⟩

theorem anyIn_of (hQ : ¬ LetsOut Q) (hd : ∀ (i : Nat) (o : Oper), ops[i]? = some o → ∀ c, o.op ≠ .defer c) : ∀ (fuel : Nat) (listed : Array Bool) (a : Act) (w : World), wpAny P md ops Q fuel listed a w → wpAnyIn (Fence.wide.inRound l) n P md ops Q fuel listed a w
  | 0, _, _, _, h => h
  | fuel + 1, listed, a, w, h => ⟨h.1, fun i hi => opIn_of hQ (hd i) (fun a' w' h' => anyIn_of hQ hd fuel _ a' w' h') (h.2 i hi)⟩

/-- No operation of the region defers. -/
def noDefer (ops : Array Oper) : Bool := ops.toList.all fun o => match o.op with | .defer _ => false | _ => true

theorem noDefer_spec (h : noDefer ops = true) : ∀ (i : Nat) (o : Oper), ops[i]? = some o → ∀ c, o.op ≠ .defer c := fun i o ho c e => by
  simp only [noDefer, List.all_eq_true] at h
  have := h o (by
    obtain ⟨hi, rfl⟩ := Array.getElem?_eq_some_iff.1 ho
    simp)
  rw [e] at this
  cases this

/-- A region that draws its order, in a round. -/
theorem regionIn_held {S : World → Prop} {id : Nat} {a : Act} {w : World} (hm : P.follows .mixedOrders = true) (hQ : ¬ LetsOut Q) (hd : noDefer ops = true)
    (h : wpAnyH P .any ops Q S ops.size (Array.replicate ops.size false) a w.drew) : (Code.region id ops true).wpIn (Fence.wide.inRound l) n P Q a w :=
  wpIn_region_any hm (anyIn_of hQ (noDefer_spec hd) _ _ _ _ (wpAny_of_held _ _ _ _ h))
end

end Go.Proofs.YtckmppkdpnhodaaGreatDoor
