/-
  Two groups in which the same is done. An act's text. Order: what each of its calls does. Order: its acts in memory, its last calls. Order. Acts that come in. The reader over whatever bytes: take, one.
-/
import Derived.Test.YtckmppkdpnhodaaGreatDoorT33
import Derived.Test.YtckmppkdpnhodaaGreatDoorT29
namespace Go.Proofs.YtckmppkdpnhodaaGreatDoor
set_option linter.unusedVariables false
set_option linter.unusedSimpArgs false
open Go.RowKit Go.Proofs

end Go.Proofs.YtckmppkdpnhodaaGreatDoor

namespace Go.Proofs.YtckmppkdpnhodaaGreatDoor
set_option linter.unusedVariables false
set_option linter.unusedSimpArgs false
open Go.RowKit Go.Proofs

attribute [local go_sem ↓] Go.wp_at_zero Go.wp_at_succ

def wordA (w : Nat) : ByteArray := if w = 0 then ⟨#[116, 101, 97]⟩ else if w = 1 then ⟨#[109, 105, 108, 107]⟩ else ⟨#[115, 97, 108, 116]⟩

/-- The text of an act: what, of which word, how many. -/
def actB (k w c : Nat) : ByteArray :=
  if k ≤ 1 then ((⟨#[97, 100, 100, 32]⟩ ++ wordA w) ++ ⟨#[32]⟩) ++ (⟨#[49, 50, 51, 52, 53, 54, 55, 56, 57]⟩ : ByteArray).extract c (c + 1)
  else if k = 2 then ⟨#[114, 101, 109, 111, 118, 101, 32]⟩ ++ wordA w
  else if k = 3 then ⟨#[97, 112, 112, 108, 121, 32]⟩ ++ wordA w
  else if k = 4 then ⟨#[114, 101, 118, 111, 107, 101, 32]⟩ ++ wordA w
  else ⟨#[110, 111, 116, 101, 32]⟩ ++ wordA w

def actC (k w c : Nat) : Cm :=
  if k ≤ 1 then ⟨.closed, wordA w, c + 1⟩
  else if k = 2 then ⟨.listen, wordA w, 0⟩
  else if k = 3 then ⟨.established, wordA w, 0⟩
  else if k = 4 then ⟨.finWait, wordA w, 0⟩
  else ⟨.closeWait, wordA w, 0⟩

theorem act_read {k w c : Nat} (hk : k < 7) (hw : w < 3) (hc : c < 9) : readC (actB k w c) = some (actC k w c) ∧ (actB k w c).size ≤ 100 := by
  have h : ∀ c, c < 9 → ∀ w, w < 3 → readC (actB 0 w c) = some (actC 0 w c) ∧ (actB 0 w c).size ≤ 100 := fun c hc w hw => by
    rcases (show w = 0 ∨ w = 1 ∨ w = 2 by omega) with rfl | rfl | rfl <;> rcases (show c = 0 ∨ c = 1 ∨ c = 2 ∨ c = 3 ∨ c = 4 ∨ c = 5 ∨ c = 6 ∨ c = 7 ∨ c = 8 by omega) with rfl | rfl | rfl | rfl | rfl | rfl | rfl | rfl | rfl <;> exact ⟨by kernel_rfl, by decide +kernel⟩
  have h2 : ∀ w, w < 3 → ∀ k, k < 7 → 2 ≤ k → readC (actB k w 0) = some (actC k w 0) ∧ (actB k w 0).size ≤ 100 := fun w hw k hk h2 => by
    rcases (show w = 0 ∨ w = 1 ∨ w = 2 by omega) with rfl | rfl | rfl <;> rcases (show k = 2 ∨ k = 3 ∨ k = 4 ∨ k = 5 ∨ k = 6 by omega) with rfl | rfl | rfl | rfl | rfl <;> exact ⟨by kernel_rfl, by decide +kernel⟩
  by_cases hl : k ≤ 1
  · have e1 : actB k w c = actB 0 w c := by simp [actB, hl]
    have e2 : actC k w c = actC 0 w c := by simp [actC, hl]
    rw [e1, e2]
    exact h c hc w hw
  · have e1 : actB k w c = actB k w 0 := by simp [actB, hl]
    have e2 : actC k w c = actC k w 0 := by simp [actC, hl]
    rw [e1, e2]
    exact h2 w hw k hk (by omega)

set_option maxRecDepth 100000 in
set_option maxHeartbeats 8000000 in
theorem actTextG (W : World) (at_ what word count : Int) (h1 : -9223372036854775808 ≤ what ∧ what ≤ 9223372036854775807) (h2 : -9223372036854775808 ≤ word ∧ word ≤ 9223372036854775807) (h3 : -9223372036854775808 ≤ count ∧ count ≤ 9223372036854775807) :
    Calls Tryz.prog 24 #[.agg #[.int .i64 at_, .int .i64 what, .int .i64 word, .int .i64 count]] W fun e w' => e = .returned (.string (actB (pickN what 7) (pickN word 3) (pickN count 9))) ∧ Below W.heap.size W w' := by
  have hk : pickN what 7 < 7 := by have : (pickN what 7 : Int) < 7 := pickN_lt (by omega); omega
  have hw : pickN word 3 < 3 := by have : (pickN word 3 : Int) < 3 := pickN_lt (by omega); omega
  have hc : pickN count 9 < 9 := by have : (pickN count 9 : Int) < 9 := pickN_lt (by omega); omega
  have HP : Hid (∀ (c m : Int) (w : World), (-9223372036854775808 ≤ c ∧ c ≤ 9223372036854775807) → (0 < m ∧ m ≤ 100) → Calls Tryz.prog 18 #[.int .i64 c, .int .i64 m] w fun e w' => e = .returned (.int .i64 (pickN c m : Int)) ∧ w' = w) := fun c m w hc hm => pickK c m w hc hm
  generalize pickN = pk at *
  rcases (show pk word 3 = 0 ∨ pk word 3 = 1 ∨ pk word 3 = 2 by omega) with hw0 | hw0 | hw0 <;> rcases (show pk what 7 = 0 ∨ pk what 7 = 1 ∨ pk what 7 = 2 ∨ pk what 7 = 3 ∨ pk what 7 = 4 ∨ pk what 7 = 5 ∨ pk what 7 = 6 by omega) with hk0 | hk0 | hk0 | hk0 | hk0 | hk0 | hk0
  all_goals (
    rw [hw0, hk0]
    go_enter Tryz.func24, Tryz.ntmps24
    go_wp2_with (go_at_call 18; refine (HP.out _ _ _ (by assumption) (by omega)).mono ?_; rintro e w' ⟨rfl, hww⟩; have hw' := hww.symm; clear hww; subst hw')
    go_ret
    exact ⟨rfl, ((Below.refl _ W).alloc (Nat.le_refl _) _).alloc (by simp) _⟩)

end Go.Proofs.YtckmppkdpnhodaaGreatDoor

namespace Go.Proofs.YtckmppkdpnhodaaGreatDoor
set_option linter.unusedVariables false
set_option linter.unusedSimpArgs false
open Go.RowKit Go.Proofs

section
variable {w0 W : World} {n g1 p1 c1 g2 p2 c2 : Nat} {r1 r2 : Nat → Nat} {S S2 : Nat → Sr} {clock k done : Nat}

end

end Go.Proofs.YtckmppkdpnhodaaGreatDoor

namespace Go.Proofs.YtckmppkdpnhodaaGreatDoor
set_option linter.unusedVariables false
set_option linter.unusedSimpArgs false
open Go.RowKit Go.Proofs

/-- An act as it comes in: at which replica, what, of which word, how many. -/
structure Ac where
  at_ : Int
  what : Int
  word : Int
  count : Int

def I64 (z : Int) : Prop := -9223372036854775808 ≤ z ∧ z ≤ 9223372036854775807
def Ac.ok (o : Ac) : Prop := I64 o.at_ ∧ I64 o.what ∧ I64 o.word ∧ I64 o.count

/-- Acts in memory. -/
def ActsAt (w : World) (p : Option Addr) (sc : List Ac) : Prop :=
  ∀ (i : Nat) (o : Ac), sc[i]? = some o → ∃ b off, p = some ⟨b, off, none⟩ ∧ w.cell? ⟨b, off + i * 4, none⟩ = some (.int .i64 o.at_) ∧ w.cell? ⟨b, off + i * 4 + 1, none⟩ = some (.int .i64 o.what) ∧ w.cell? ⟨b, off + i * 4 + 2, none⟩ = some (.int .i64 o.word) ∧ w.cell? ⟨b, off + i * 4 + 3, none⟩ = some (.int .i64 o.count)

theorem ActsAt.below {w w' : World} {p : Option Addr} {sc : List Ac} (h : ActsAt w p sc) (hb : Below w.heap.size w w') : ActsAt w' p sc := fun i o ho => by
  obtain ⟨b, off, hp, c0, c1, c2, c3⟩ := h i o ho
  have hlt : b < w.heap.size := World.block_lt_of_cell? w _ c0
  have key : ∀ (k : Nat) (v : Value), w.cell? ⟨b, k, none⟩ = some v → w'.cell? ⟨b, k, none⟩ = some v := fun k v hv => (World.cell?_of_block (a := ⟨b, k, none⟩) (hb.block b hlt)).trans hv
  exact ⟨b, off, hp, key _ _ c0, key _ _ c1, key _ _ c2, key _ _ c3⟩

section
variable {w0 W : World} {n g1 p1 c1 g2 p2 c2 : Nat} {r1 r2 : Nat → Nat} {clock k done : Nat}

end

end Go.Proofs.YtckmppkdpnhodaaGreatDoor

namespace Go.Proofs.YtckmppkdpnhodaaGreatDoor
set_option linter.unusedVariables false
set_option linter.unusedSimpArgs false
open Go.RowKit Go.Proofs

attribute [local go_sem ↓] Go.wp_at_zero Go.wp_at_succ

end Go.Proofs.YtckmppkdpnhodaaGreatDoor

namespace Go.Proofs.YtckmppkdpnhodaaGreatDoor
set_option linter.unusedVariables false
set_option linter.unusedSimpArgs false
open Go.ChangeShapes Go.WideShapes Go.ChangeAt Go.RowKit Go.Deep

theorem Tryz.cActK : Tryz.prog.cellsOf 50 = 4 := by kernel_rfl
theorem Tryz.cIntK : Tryz.prog.cellsOf 3 = 1 := by kernel_rfl
theorem Tryz.laidOutK : laidOutB Tryz.prog = true := by kernel_rfl
theorem Tryz.actR : Tryz.prog.readableRec 50 = true := by kernel_rfl
theorem Tryz.actS : Tryz.prog.slicesRec 50 = false := by kernel_rfl
theorem Tryz.actI : Tryz.prog.ifacesRec 50 = false := by kernel_rfl
theorem Tryz.actV : Tryz.prog.veiledRec 50 = false := by kernel_rfl
theorem Tryz.actL : 50 < Tryz.prog.types.size := of_decide_eq_true (by kernel_rfl)

section
variable {H : Type} {enc : TypeId × Value → H} {W W' : World} {base : Nat} {sp : Nat → Bool} {hd : Bool}

set_option maxRecDepth 100000 in
theorem ac_of {n : Nat} {cs : List Value} {x : DataW H × List MemPlace} (h : DataW.trod enc Tryz.prog W base sp hd n 50 cs = some x) :
    ∃ o : Ac, cs = [.int .i64 o.at_, .int .i64 o.what, .int .i64 o.word, .int .i64 o.count] ∧ o.ok := by
  obtain ⟨xs, k, -, -, hl, hxl, hf⟩ := DataW.trod_struct Tryz.underlying50 h
  rw [Tryz.cActK] at hl
  match cs, hl with
  | [v0, v1, v2, v3], _ =>
    match xs, hxl with
    | [y0, y1, y2, y3], _ =>
      have g0 : DataW.trod enc Tryz.prog W base sp hd k 3 (([v0, v1, v2, v3].drop 0).take (Tryz.prog.cellsOf 3)) = some y0 := hf 0 _ rfl
      have g1 : DataW.trod enc Tryz.prog W base sp hd k 3 (([v0, v1, v2, v3].drop 1).take (Tryz.prog.cellsOf 3)) = some y1 := hf 1 _ rfl
      have g2 : DataW.trod enc Tryz.prog W base sp hd k 3 (([v0, v1, v2, v3].drop 2).take (Tryz.prog.cellsOf 3)) = some y2 := hf 2 _ rfl
      have g3 : DataW.trod enc Tryz.prog W base sp hd k 3 (([v0, v1, v2, v3].drop 3).take (Tryz.prog.cellsOf 3)) = some y3 := hf 3 _ rfl
      rw [Tryz.cIntK] at g0 g1 g2 g3
      obtain ⟨z0, e0, -, w0⟩ := DataW.trod_int Tryz.underlying3 g0
      obtain ⟨z1, e1, -, w1⟩ := DataW.trod_int Tryz.underlying3 g1
      obtain ⟨z2, e2, -, w2⟩ := DataW.trod_int Tryz.underlying3 g2
      obtain ⟨z3, e3, -, w3⟩ := DataW.trod_int Tryz.underlying3 g3
      simp at e0 e1 e2 e3
      subst e0 e1 e2 e3
      exact ⟨⟨z0, z1, z2, z3⟩, rfl, i64K w0, i64K w1, i64K w2, i64K w3⟩

/-- The script that came in. -/
theorem acts_of {n : Nat} {cs : List Value} {x : DataW H × List MemPlace} (h : DataW.trod enc Tryz.prog W base (fun _ => true) hd n 48 cs = some x) :
    ∃ (p : Option Addr) (cap : Nat) (sc : List Ac), cs = [.slice p sc.length cap] ∧ ActsAt W p sc ∧ (∀ o ∈ sc, o.ok) ∧ sc.length ≤ maxLen := by
  rcases open_slice Tryz.underlying48 h with ⟨rfl, rfl⟩ | ⟨a, len, cap, m, n, D, Pl, rfl, h0, hl, hm, hmm, rfl, hi⟩
  · exact ⟨none, 0, [], rfl, fun i o ho => by simp at ho, fun o ho => by simp at ho, Nat.zero_le _⟩
  · simp only [if_true] at hmm
    subst hmm
    rw [Tryz.cActK] at hi
    have each : ∀ i, i < m → ∃ o : Ac, W.cells? base (a.add (i * 4)) 4 = some [.int .i64 o.at_, .int .i64 o.what, .int .i64 o.word, .int .i64 o.count] ∧ o.ok := fun i him => by
      obtain ⟨cs', h1, h2⟩ := hi i him
      obtain ⟨o, rfl, h3⟩ := ac_of h2
      exact ⟨o, h1, h3⟩
    obtain ⟨f, hf⟩ := Classical.skolem.1 (fun i => (show ∃ o : Ac, i < m → _ from if him : i < m then (each i him).elim fun o ho => ⟨o, fun _ => ho⟩ else ⟨⟨0, 0, 0, 0⟩, fun h => absurd h him⟩))
    refine ⟨some a, m, (List.range len).map f, by simp, fun i o ho => ?_, fun o ho => ?_, by simp only [List.length_map, List.length_range]; omega⟩
    · have hil : i < len := by
        have := (List.getElem?_eq_some_iff.1 ho).1
        simpa using this
      have hio : o = f i := by
        rw [List.getElem?_map, List.getElem?_range hil] at ho
        simpa using ho.symm
      subst hio
      obtain ⟨-, -, hc⟩ := World.cells?_some (hf i (by omega)).1
      have hsp : a.spot = none := by
        have := World.cell?_spot ((World.cells?_some (hf 0 (by omega)).1).2.2 0 (by omega))
        simpa [Addr.add] using this
      obtain ⟨b, off, spot⟩ := a
      simp only at hsp
      subst hsp
      have e : ∀ j, j < 4 → W.cell? ⟨b, off + i * 4 + j, none⟩ = [Value.int .i64 (f i).at_, .int .i64 (f i).what, .int .i64 (f i).word, .int .i64 (f i).count][j]? := fun j hj => by
        have := hc j hj
        rw [add_add] at this
        rw [← this]
        unfold Addr.add
        split
        · rename_i h0
          have : i * 4 + j = 0 := h0
          simp [Nat.add_assoc, this]
        · simp [Nat.add_assoc]
      exact ⟨b, off, rfl, e 0 (by omega), e 1 (by omega), e 2 (by omega), e 3 (by omega)⟩
    · obtain ⟨i, hi', rfl⟩ := List.mem_map.1 ho
      exact (hf i (by have := List.mem_range.1 hi'; omega)).2

theorem acts_again {n : Nat} {cs : List Value} {x : DataW H × List MemPlace} (hb : Below W.heap.size W W') (h : DataW.trod enc Tryz.prog W 0 (fun _ => true) true n 48 cs = some x) (hp : ∀ q ∈ x.2, q.block < W.heap.size) :
    ∃ m, DataW.trod enc Tryz.prog W' 0 (fun b => decide (b < W.heap.size)) true m 48 cs = some x :=
  slice_again Tryz.underlying48 hb (by rw [Tryz.cActK]; omega) (fun n _ _ h hq => ⟨n, trod_any Tryz.laidOutK Tryz.actR Tryz.actL Tryz.actS Tryz.actI h (fun p hp => same_below hb (hq p hp)) Tryz.actV⟩) h hp

end

end Go.Proofs.YtckmppkdpnhodaaGreatDoor

namespace Go.Proofs.YtckmppkdpnhodaaGreatDoor
set_option linter.unusedVariables false
set_option linter.unusedSimpArgs false
open Go.RowKit Go.Proofs

attribute [local go_sem ↓] Go.wp_at_zero Go.wp_at_succ

/-- A reader in block q that has some bytes of block z ahead; it may be bad. -/
def Rb (w : World) (q z : Nat) (rest : List UInt8) (bad : Bool) : Prop :=
  ∃ off cap, w.heap[q]? = some (.cells #[.slice (some ⟨z, off, none⟩) rest.length cap, .bool bad] 204 (0, 0)) ∧ rest.length ≤ cap ∧ cap ≤ 9223372036854775807 ∧ z ≠ q ∧ ∀ (i : Nat) (x : UInt8), rest[i]? = some x → w.cell? ⟨z, off + i, none⟩ = some (.int .u8 (x.toNat : Int))

theorem Rb.lt {w : World} {q z : Nat} {rest : List UInt8} {bad : Bool} (h : Rb w q z rest bad) : q < w.heap.size := by
  obtain ⟨off, cap, h1, -⟩ := h
  exact (Array.getElem?_eq_some_iff.1 h1).1

theorem Rb.upd {w w' : World} {q z : Nat} {rest : List UInt8} {bad : Bool} {S : List (Option Nat)} (h : Rb w q z rest bad) (hu : Upd S w w') (hq : some q ∉ S) (hz : some z ∉ S) : Rb w' q z rest bad := by
  obtain ⟨off, cap, h1, h2, h3, h4, h5⟩ := h
  exact ⟨off, cap, by rw [hu.block q (Array.getElem?_eq_some_iff.1 h1).1 hq]; exact h1, h2, h3, h4, fun i x hx => hu.cell (h5 i x hx) hz⟩

theorem Rb.below {w w' : World} {q z : Nat} {rest : List UInt8} {bad : Bool} (h : Rb w q z rest bad) (hb : Below w.heap.size w w') : Rb w' q z rest bad := h.upd (Upd.of_below (S := []) hb) (by simp) (by simp)

theorem Rb.c1 {w : World} {q z : Nat} {rest : List UInt8} {bad : Bool} (h : Rb w q z rest bad) : w.cell? ⟨q, 1, none⟩ = some (.bool bad) ∧ w.frozen? ⟨q, 1, none⟩ = false := by
  obtain ⟨off, cap, h1, -⟩ := h
  exact ⟨by rw [cell_of_heap h1]; rfl, frozen_of_heap h1 1⟩

/-- The reader is told to be bad. -/
theorem Rb.spoil {w : World} {q z : Nat} {rest : List UInt8} {bad : Bool} (h : Rb w q z rest bad) : Rb (w.setCell ⟨q, 1, none⟩ (.bool true)) q z rest true ∧ Upd [some q] w (w.setCell ⟨q, 1, none⟩ (.bool true)) := by
  obtain ⟨off, cap, h1, h2, h3, h4, h5⟩ := h
  have hu : Upd [some q] w (w.setCell ⟨q, 1, none⟩ (.bool true)) := (Upd.refl _ _).setCell (.inl (by simp)) _
  exact ⟨⟨off, cap, by rw [heap_setCell_same h1]; rfl, h2, h3, h4, fun i x hx => hu.cell (h5 i x hx) (by simp; exact h4)⟩, hu⟩

/-- What take gives. -/
def RbTake (q z n : Nat) (rest : List UInt8) (bad : Bool) (e : Ending) (w' : World) : Prop :=
  (n ≤ rest.length ∧ ∃ off c, e = .returned (.slice (some ⟨z, off, none⟩) n c) ∧ n ≤ c ∧ BytesAt w' (.slice (some ⟨z, off, none⟩) n c) (rest.take n) ∧ Rb w' q z (rest.drop n) bad) ∨ (rest.length < n ∧ e = .returned (.slice none 0 0) ∧ Rb w' q z rest true)

set_option maxRecDepth 100000 in
set_option maxHeartbeats 4000000 in
theorem takeX (q z n : Nat) (rest : List UInt8) (bad : Bool) (hn0 : n ≤ 255) (w : World) (hr : Rb w q z rest bad) :
    Calls Tryz.prog 168 #[.pointer (some ⟨q, 0, none⟩), .int .i64 (n : Int)] w fun e w' => Upd [some q] w w' ∧ RbTake q z n rest bad e w' := by
  by_cases hn : n ≤ rest.length
  · obtain ⟨off, cap, hh, hcap, hmax, hbq, hc⟩ := hr
    have hl := (Array.getElem?_eq_some_iff.1 hh).1
    have c0 : w.cell? ⟨q, 0, none⟩ = some (.slice (some ⟨z, off, none⟩) rest.length cap) := by rw [cell_of_heap hh]; rfl
    have f0 : w.frozen? ⟨q, 0, none⟩ = false := frozen_of_heap hh 0
    have HC : Hid (∀ (i : Nat) (x : UInt8), rest[i]? = some x → w.cell? ⟨z, off + i, none⟩ = some (.int .u8 (x.toNat : Int))) := hc
    have HH : Hid (w.heap[q]? = some (.cells #[.slice (some ⟨z, off, none⟩) rest.length cap, .bool bad] 204 (0, 0))) := hh
    have e1 : ¬ (rest.length : Int) < (n : Int) := by omega
    clear hc hh
    obtain ⟨o2, ho2⟩ : ∃ o2, o2 = if n = cap then off else off + n := ⟨_, rfl⟩
    have key : ∀ W, W = w.setCell ⟨q, 0, none⟩ (.slice (some ⟨z, o2, none⟩) (rest.length - n) (cap - n)) → Upd [some q] w W ∧ BytesAt W (.slice (some ⟨z, off, none⟩) n cap) (rest.take n) ∧ Rb W q z (rest.drop n) bad := by
      intro W hW
      have hu : Upd [some q] w W := by rw [hW]; exact (Upd.refl _ _).setCell (.inl (by simp)) _
      have hcell : ∀ (i : Nat) (x : UInt8), rest[i]? = some x → W.cell? ⟨z, off + i, none⟩ = some (.int .u8 (x.toNat : Int)) := fun i x hx => hu.cell (HC.out i x hx) (by simp; exact hbq)
      have hh2 : W.heap[q]? = some (.cells #[.slice (some ⟨z, o2, none⟩) (rest.length - n) (cap - n), .bool bad] 204 (0, 0)) := by rw [hW]; exact heap_set1 HH.out
      refine ⟨hu, ⟨_, _, by rw [List.length_take, Nat.min_eq_left hn], fun i x hx => ⟨z, off, rfl, hcell i x ?_⟩⟩, ⟨o2, cap - n, by rw [List.length_drop]; exact hh2, by rw [List.length_drop]; omega, by omega, hbq, fun i x hx => ?_⟩⟩
      · rw [List.getElem?_take] at hx
        split at hx
        · exact hx
        · cases hx
      · rw [List.getElem?_drop] at hx
        have hlt := (List.getElem?_eq_some_iff.1 hx).1
        rw [ho2, if_neg (by omega), Nat.add_assoc]
        exact hcell (n + i) x hx
    have HK : Hid (∀ W, W = w.setCell ⟨q, 0, none⟩ (.slice (some ⟨z, o2, none⟩) (rest.length - n) (cap - n)) → Upd [some q] w W ∧ BytesAt W (.slice (some ⟨z, off, none⟩) n cap) (rest.take n) ∧ Rb W q z (rest.drop n) bad) := key
    clear key HC HH
    by_cases hnc : n = cap
    · subst hnc
      rw [if_pos rfl] at ho2
      subst ho2
      have hc0 : n - n = 0 := by omega
      rw [hc0] at HK
      go_enter Tryz.func168, Tryz.ntmps168
      go_wp2
      go_ret
      have HX := HK.out _ (by rw [show rest.length - n = 0 by omega])
      exact ⟨HX.1, .inl ⟨hn, o2, n, rfl, by omega, HX.2⟩⟩
    · rw [if_neg hnc] at ho2
      subst ho2
      have hnc2 : ¬ cap = n := fun e => hnc e.symm
      have hnc3 : ¬ cap - n = 0 := by omega
      go_enter Tryz.func168, Tryz.ntmps168
      go_wp2
      go_ret
      have HX := HK.out _ rfl
      exact ⟨HX.1, .inl ⟨hn, off, cap, rfl, by omega, HX.2⟩⟩
  · have HS : Hid (Rb (w.setCell ⟨q, 1, none⟩ (.bool true)) q z rest true ∧ Upd [some q] w (w.setCell ⟨q, 1, none⟩ (.bool true))) := hr.spoil
    obtain ⟨c1, f1⟩ := hr.c1
    obtain ⟨off, cap, hh, hcap, hmax, hbq, hc⟩ := hr
    have c0 : w.cell? ⟨q, 0, none⟩ = some (.slice (some ⟨z, off, none⟩) rest.length cap) := by rw [cell_of_heap hh]; rfl
    have e1 : (rest.length : Int) < (n : Int) := by omega
    clear hh hc
    go_enter Tryz.func168, Tryz.ntmps168
    go_wp2
    go_ret
    exact ⟨HS.out.2, .inr ⟨by omega, rfl, HS.out.1⟩⟩

/-- What a reader's call leaves: it goes forward, and stays bad. -/
def RbTo (w : World) (q z : Nat) (rest : List UInt8) (bad : Bool) (w' : World) : Prop :=
  ∃ rest' bad', Rb w' q z rest' bad' ∧ Upd [some q] w w' ∧ rest'.length ≤ rest.length ∧ (bad = true → bad' = true) ∧ (bad' = false → rest'.length < rest.length)

theorem RbTo.trans {w w' w'' : World} {q z : Nat} {rest rest' : List UInt8} {bad bad' : Bool} (h1 : Upd [some q] w w') (h2 : rest'.length ≤ rest.length) (h3 : bad = true → bad' = true) (h : RbTo w' q z rest' bad' w'') : RbTo w q z rest bad w'' := by
  obtain ⟨r, b, a1, a2, a3, a4, a5⟩ := h
  exact ⟨r, b, a1, h1.trans a2 fun i hi => .inl hi, by omega, fun e => a4 (h3 e), fun e => by have := a5 e; omega⟩

set_option maxRecDepth 100000 in
set_option maxHeartbeats 4000000 in
theorem oneX (q z : Nat) (rest : List UInt8) (bad : Bool) (w : World) (hr : Rb w q z rest bad) :
    Calls Tryz.prog 167 #[.pointer (some ⟨q, 0, none⟩)] w fun e w' => ∃ x : Nat, x < 256 ∧ e = .returned (.int .i64 (x : Int)) ∧ RbTo w q z rest bad w' := by
  have HT : Hid (Calls Tryz.prog 168 #[.pointer (some ⟨q, 0, none⟩), .int .i64 1] w fun e w' => ∃ p m c bad' , e = .returned (.slice p m c) ∧ w'.cell? ⟨q, 1, none⟩ = some (.bool bad') ∧ Hid (RbTo w q z rest bad w') ∧ (bad' = false → ∃ off xn, p = some ⟨z, off, none⟩ ∧ m = 1 ∧ 1 ≤ c ∧ xn < 256 ∧ w'.cell? ⟨z, off, none⟩ = some (.int .u8 ((xn : Nat) : Int)))) := by
    refine (takeX q z 1 rest bad (by omega) w hr).mono ?_
    rintro e w' ⟨hu, ⟨hl, off, c, h1, h2, h3, h4⟩ | ⟨hl, h1, h2⟩⟩
    · refine ⟨some ⟨z, off, none⟩, 1, c, bad, h1, h4.c1.1, ⟨rest.drop 1, bad, h4, hu, by rw [List.length_drop]; omega, fun e => e, fun _ => by rw [List.length_drop]; omega⟩, fun _ => ?_⟩
      obtain ⟨p', c', h5, h6⟩ := h3
      have hx : (rest.take 1)[0]? = some rest[0] := by rw [List.getElem?_take_of_lt (by omega), List.getElem?_eq_getElem (by omega)]
      obtain ⟨b', off', hp, hcell⟩ := h6 0 _ hx
      rw [hp] at h5
      simp only [Value.slice.injEq, Option.some.injEq, Addr.mk.injEq, and_true] at h5
      obtain ⟨⟨rfl, rfl⟩, -⟩ := h5
      exact ⟨off, rest[0].toNat, rfl, rfl, h2, rest[0].toNat_lt, by simpa using hcell⟩
    · exact ⟨none, 0, 0, true, h1, h2.c1.1, ⟨rest, true, h2, hu, Nat.le_refl _, fun _ => rfl, fun e => by simp at e⟩, fun e => by simp at e⟩
  clear hr
  go_enter Tryz.func167, Tryz.ntmps167
  go_upto_region 2 with (go_at_call 168; refine HT.out.mono ?_; rintro e w2 ⟨p, m, c, bad', rfl, hbad, HRB, hgood⟩)
  cases bad' with
  | true =>
    go_wp2
    go_ret
    exact ⟨0, by omega, rfl, HRB.out⟩
  | false =>
    obtain ⟨off, xn, rfl, rfl, hc1, hx, hcell⟩ := hgood rfl
    have e1 : (xn : Int) % 256 = xn := by omega
    go_wp2
    go_ret
    exact ⟨xn, hx, rfl, HRB.out⟩

end Go.Proofs.YtckmppkdpnhodaaGreatDoor
