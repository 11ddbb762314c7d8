/-
  Acts that come in.
-/
import Derived.Test.YtckmppkdpnhodaaGreatDoorT43
import Derived.Test.YtckmppkdpnhodaaGreatDoorT45
namespace Go.Proofs.YtckmppkdpnhodaaGreatDoor
set_option linter.unusedVariables false
set_option linter.unusedSimpArgs false
open Go.ChangeShapes Go.WideShapes Go.ChangeAt Go.RowKit Go.Deep

theorem Tryz.cActK : Tryz.prog.cellsOf 50 = 4 := by kernel_rfl
theorem Tryz.cIntK : Tryz.prog.cellsOf 3 = 1 := by kernel_rfl
theorem Tryz.laidOutK : laidOutB Tryz.prog = true := by kernel_rfl
theorem Tryz.actR : Tryz.prog.readableRec 50 = true := by kernel_rfl
theorem Tryz.actS : Tryz.prog.slicesRec 50 = false := by kernel_rfl
theorem Tryz.actI : Tryz.prog.ifacesRec 50 = false := by kernel_rfl
theorem Tryz.actV : Tryz.prog.veiledRec 50 = false := by kernel_rfl
theorem Tryz.actL : 50 < Tryz.prog.types.size := of_decide_eq_true (by kernel_rfl)

section
variable {H : Type} {enc : TypeId × Value → H} {W W' : World} {base : Nat} {sp : Nat → Bool} {hd : Bool}

set_option maxRecDepth 100000 in
theorem ac_of {n : Nat} {cs : List Value} {x : DataW H × List MemPlace} (h : DataW.trod enc Tryz.prog W base sp hd n 50 cs = some x) :
    ∃ o : Ac, cs = [.int .i64 o.at_, .int .i64 o.what, .int .i64 o.word, .int .i64 o.count] ∧ o.ok := by
  obtain ⟨xs, k, -, -, hl, hxl, hf⟩ := DataW.trod_struct Tryz.underlying50 h
  rw [Tryz.cActK] at hl
  match cs, hl with
  | [v0, v1, v2, v3], _ =>
    match xs, hxl with
    | [y0, y1, y2, y3], _ =>
      have g0 : DataW.trod enc Tryz.prog W base sp hd k 3 (([v0, v1, v2, v3].drop 0).take (Tryz.prog.cellsOf 3)) = some y0 := hf 0 _ rfl
      have g1 : DataW.trod enc Tryz.prog W base sp hd k 3 (([v0, v1, v2, v3].drop 1).take (Tryz.prog.cellsOf 3)) = some y1 := hf 1 _ rfl
      have g2 : DataW.trod enc Tryz.prog W base sp hd k 3 (([v0, v1, v2, v3].drop 2).take (Tryz.prog.cellsOf 3)) = some y2 := hf 2 _ rfl
      have g3 : DataW.trod enc Tryz.prog W base sp hd k 3 (([v0, v1, v2, v3].drop 3).take (Tryz.prog.cellsOf 3)) = some y3 := hf 3 _ rfl
      rw [Tryz.cIntK] at g0 g1 g2 g3
      obtain ⟨z0, e0, -, w0⟩ := DataW.trod_int Tryz.underlying3 g0
      obtain ⟨z1, e1, -, w1⟩ := DataW.trod_int Tryz.underlying3 g1
      obtain ⟨z2, e2, -, w2⟩ := DataW.trod_int Tryz.underlying3 g2
      obtain ⟨z3, e3, -, w3⟩ := DataW.trod_int Tryz.underlying3 g3
      simp at e0 e1 e2 e3
      subst e0 e1 e2 e3
      exact ⟨⟨z0, z1, z2, z3⟩, rfl, i64K w0, i64K w1, i64K w2, i64K w3⟩

/-- The script that came in. -/
theorem acts_of {n : Nat} {cs : List Value} {x : DataW H × List MemPlace} (h : DataW.trod enc Tryz.prog W base (fun _ => true) hd n 48 cs = some x) :
    ∃ (p : Option Addr) (cap : Nat) (sc : List Ac), cs = [.slice p sc.length cap] ∧ ActsAt W p sc ∧ (∀ o ∈ sc, o.ok) ∧ sc.length ≤ maxLen := by
  rcases open_slice Tryz.underlying48 h with ⟨rfl, rfl⟩ | ⟨a, len, cap, m, n, D, Pl, rfl, h0, hl, hm, hmm, rfl, hi⟩
  · exact ⟨none, 0, [], rfl, fun i o ho => by simp at ho, fun o ho => by simp at ho, Nat.zero_le _⟩
  · simp only [if_true] at hmm
    subst hmm
    rw [Tryz.cActK] at hi
    have each : ∀ i, i < m → ∃ o : Ac, W.cells? base (a.add (i * 4)) 4 = some [.int .i64 o.at_, .int .i64 o.what, .int .i64 o.word, .int .i64 o.count] ∧ o.ok := fun i him => by
      obtain ⟨cs', h1, h2⟩ := hi i him
      obtain ⟨o, rfl, h3⟩ := ac_of h2
      exact ⟨o, h1, h3⟩
    obtain ⟨f, hf⟩ := Classical.skolem.1 (fun i => (show ∃ o : Ac, i < m → _ from if him : i < m then (each i him).elim fun o ho => ⟨o, fun _ => ho⟩ else ⟨⟨0, 0, 0, 0⟩, fun h => absurd h him⟩))
    refine ⟨some a, m, (List.range len).map f, by simp, fun i o ho => ?_, fun o ho => ?_, by simp only [List.length_map, List.length_range]; omega⟩
    · have hil : i < len := by
        have := (List.getElem?_eq_some_iff.1 ho).1
        simpa using this
      have hio : o = f i := by
        rw [List.getElem?_map, List.getElem?_range hil] at ho
        simpa using ho.symm
      subst hio
      obtain ⟨-, -, hc⟩ := World.cells?_some (hf i (by omega)).1
      have hsp : a.spot = none := by
        have := World.cell?_spot ((World.cells?_some (hf 0 (by omega)).1).2.2 0 (by omega))
        simpa [Addr.add] using this
      obtain ⟨b, off, spot⟩ := a
      simp only at hsp
      subst hsp
      have e : ∀ j, j < 4 → W.cell? ⟨b, off + i * 4 + j, none⟩ = [Value.int .i64 (f i).at_, .int .i64 (f i).what, .int .i64 (f i).word, .int .i64 (f i).count][j]? := fun j hj => by
        have := hc j hj
        rw [add_add] at this
        rw [← this]
        unfold Addr.add
        split
        · rename_i h0
          have : i * 4 + j = 0 := h0
          simp [Nat.add_assoc, this]
        · simp [Nat.add_assoc]
      exact ⟨b, off, rfl, e 0 (by omega), e 1 (by omega), e 2 (by omega), e 3 (by omega)⟩
    · obtain ⟨i, hi', rfl⟩ := List.mem_map.1 ho
      exact (hf i (by have := List.mem_range.1 hi'; omega)).2

theorem acts_again {n : Nat} {cs : List Value} {x : DataW H × List MemPlace} (hb : Below W.heap.size W W') (h : DataW.trod enc Tryz.prog W 0 (fun _ => true) true n 48 cs = some x) (hp : ∀ q ∈ x.2, q.block < W.heap.size) :
    ∃ m, DataW.trod enc Tryz.prog W' 0 (fun b => decide (b < W.heap.size)) true m 48 cs = some x :=
  slice_again Tryz.underlying48 hb (by rw [Tryz.cActK]; omega) (fun n _ _ h hq => ⟨n, trod_any Tryz.laidOutK Tryz.actR Tryz.actL Tryz.actS Tryz.actI h (fun p hp => same_below hb (hq p hp)) Tryz.actV⟩) h hp

end

end Go.Proofs.YtckmppkdpnhodaaGreatDoor
