/-
  Runs of bytes that come in.
-/
import Derived.Test.YtckmppkdpnhodaaGreatDoorT34
import Derived.Test.YtckmppkdpnhodaaGreatDoorT40
namespace Go.Proofs.YtckmppkdpnhodaaGreatDoor
set_option linter.unusedVariables false
set_option linter.unusedSimpArgs false
open Go.ChangeShapes Go.WideShapes Go.ChangeAt Go.RowKit Go.Deep

theorem Tryz.cU8K : Tryz.prog.cellsOf 5 = 1 := by kernel_rfl
theorem Tryz.cBsK : Tryz.prog.cellsOf 55 = 1 := by kernel_rfl
theorem Tryz.u8R : Tryz.prog.readableRec 5 = true := by kernel_rfl
theorem Tryz.u8S : Tryz.prog.slicesRec 5 = false := by kernel_rfl
theorem Tryz.u8I : Tryz.prog.ifacesRec 5 = false := by kernel_rfl
theorem Tryz.u8V : Tryz.prog.veiledRec 5 = false := by kernel_rfl
theorem Tryz.u8L : 5 < Tryz.prog.types.size := of_decide_eq_true (by kernel_rfl)

theorem bulk_len {H : Type} : ∀ l : List (DataW H), l.length ≤ Rows.uptoBulkAll l
  | [] => by simp [Rows.uptoBulkAll]
  | d :: r => by
    have ih := bulk_len r
    have h1 : 1 ≤ Rows.uptoBulk d := by
      cases d with
      | lit l => cases l <;> simp [Rows.uptoBulk]
      | nil => simp [Rows.uptoBulk]
      | ptr d => simp [Rows.uptoBulk]
      | slice elems spare => simp [Rows.uptoBulk]
      | agg parts => simp [Rows.uptoBulk]
      | iface t d => simp [Rows.uptoBulk]
      | map entries => simp [Rows.uptoBulk]
      | held h => simp [Rows.uptoBulk]
    simp only [Rows.uptoBulkAll, List.length_cons]
    omega

theorem bulk_mem {H : Type} : ∀ {l : List (DataW H)} {d : DataW H}, d ∈ l → Rows.uptoBulk d ≤ Rows.uptoBulkAll l
  | x :: r, d, h => by
    simp only [Rows.uptoBulkAll]
    rcases List.mem_cons.1 h with rfl | h
    · omega
    · have := bulk_mem h
      omega

section
variable {H : Type} {enc : TypeId × Value → H} {W W' : World} {base : Nat} {sp : Nat → Bool} {hd : Bool}

theorem byte_of {n : Nat} {cs : List Value} {x : DataW H × List MemPlace} (h : DataW.trod enc Tryz.prog W base sp hd n 5 cs = some x) : ∃ b : UInt8, cs = [.int .u8 (b.toNat : Int)] := by
  obtain ⟨z, e, -, w⟩ := DataW.trod_int Tryz.underlying5 h
  have h1 := (Lit.wf_int_iff .u8 z).1 w
  have e1 : IntKind.u8.min = 0 := by decide +kernel
  have e2 : IntKind.u8.max = 255 := by decide +kernel
  rw [e1, e2] at h1
  refine ⟨UInt8.ofNat z.toNat, ?_⟩
  rw [e, UInt8.toNat_ofNat']
  congr 2
  omega

/-- A row's cells of one cell each. -/
theorem row_at {a : Addr} {f : Nat → Value} {len : Nat} (h : ∀ i, i < len → W.cells? base (a.add (i * 1)) 1 = some [f i]) {i : Nat} (hi : i < len) : ∃ b off, a = ⟨b, off, none⟩ ∧ W.cell? ⟨b, off + i, none⟩ = some (f i) := by
  obtain ⟨-, -, hc⟩ := World.cells?_some (h i hi)
  have hsp : a.spot = none := by
    have := World.cell?_spot ((World.cells?_some (h 0 (by omega))).2.2 0 (by omega))
    simpa [Addr.add] using this
  obtain ⟨b, off, spot⟩ := a
  simp only at hsp
  subst hsp
  refine ⟨b, off, rfl, ?_⟩
  have := hc 0 (by omega)
  rw [add_add, Nat.mul_one, Nat.add_zero] at this
  unfold Addr.add at this
  split at this
  · rename_i h0
    have : i = 0 := h0
    subst this
    simpa using ‹_›
  · simpa using this

/-- Bytes that came in. -/
theorem bytes_of {n : Nat} {cs : List Value} {x : DataW H × List MemPlace} (h : DataW.trod enc Tryz.prog W base (fun _ => true) hd n 55 cs = some x) :
    ∃ (p : Option Addr) (cap : Nat) (f : List UInt8), cs = [.slice p f.length cap] ∧ BytesAt W (.slice p f.length cap) f ∧ f.length ≤ cap ∧ cap ≤ 9223372036854775807 ∧ f.length ≤ Rows.uptoBulk x.1 := by
  rcases open_slice Tryz.underlying55 h with ⟨rfl, rfl⟩ | ⟨a, len, cap, m, n, D, Pl, rfl, h0, hl, hm, hmm, rfl, hi⟩
  · exact ⟨none, 0, [], rfl, ⟨none, 0, rfl, fun i o ho => by simp at ho⟩, Nat.le_refl _, by omega, Nat.zero_le _⟩
  · simp only [if_true] at hmm
    subst hmm
    rw [Tryz.cU8K] at hi
    have each : ∀ i, i < m → ∃ o : UInt8, W.cells? base (a.add (i * 1)) 1 = some [.int .u8 (o.toNat : Int)] := fun i him => by
      obtain ⟨cs', h1, h2⟩ := hi i him
      obtain ⟨o, rfl⟩ := byte_of h2
      exact ⟨o, h1⟩
    obtain ⟨f, hf⟩ := Classical.skolem.1 (fun i => (show ∃ o : UInt8, i < m → _ from if him : i < m then (each i him).elim fun o ho => ⟨o, fun _ => ho⟩ else ⟨0, fun h => absurd h him⟩))
    have hlen : ((List.range len).map f).length = len := by simp
    refine ⟨some a, m, (List.range len).map f, by simp, ⟨_, _, rfl, fun i o ho => ?_⟩, by rw [hlen]; exact hl, by unfold maxLen at hm; omega, ?_⟩
    · have hil : i < len := by
        have := (List.getElem?_eq_some_iff.1 ho).1
        simpa using this
      have hio : o = f i := by
        rw [List.getElem?_map, List.getElem?_range hil] at ho
        simpa using ho.symm
      subst hio
      obtain ⟨b, off, rfl, hc⟩ := row_at (f := fun i => .int .u8 ((f i).toNat : Int)) (len := m) hf (i := i) (by omega)
      exact ⟨b, off, rfl, hc⟩
    · simp only [Rows.uptoBulk]
      have := bulk_len ((List.range len).map D)
      simp only [List.length_map, List.length_range] at this ⊢
      omega

/-- The runs of bytes that came in. -/
theorem raw_of {n : Nat} {cs : List Value} {x : DataW H × List MemPlace} (h : DataW.trod enc Tryz.prog W base (fun _ => true) hd n 61 cs = some x) (hk : Rows.uptoBulk x.1 ≤ 1048576) :
    ∃ (p : Option Addr) (cap : Nat) (rs : List (Option Addr × Nat × List UInt8)), cs = [.slice p rs.length cap] ∧ RawAt W p rs ∧ rs.length ≤ 1048576 := by
  rcases open_slice Tryz.underlying61 h with ⟨rfl, rfl⟩ | ⟨a, len, cap, m, n, D, Pl, rfl, h0, hl, hm, hmm, rfl, hi⟩
  · exact ⟨none, 0, [], rfl, fun i o ho => by simp at ho, Nat.zero_le _⟩
  · simp only [if_true] at hmm
    subst hmm
    rw [Tryz.cBsK] at hi
    simp only [Rows.uptoBulk] at hk
    have each : ∀ i, i < m → ∃ o : Option Addr × Nat × List UInt8, W.cells? base (a.add (i * 1)) 1 = some [.slice o.1 o.2.2.length o.2.1] ∧ BytesAt W (.slice o.1 o.2.2.length o.2.1) o.2.2 ∧ o.2.2.length ≤ o.2.1 ∧ o.2.1 ≤ 9223372036854775807 ∧ o.2.2.length ≤ Rows.uptoBulk (D i) := fun i him => by
      obtain ⟨cs', h1, h2⟩ := hi i him
      obtain ⟨p, c, f, rfl, q1, q2, q3, q4⟩ := bytes_of h2
      exact ⟨(p, c, f), h1, q1, q2, q3, q4⟩
    obtain ⟨f, hf⟩ := Classical.skolem.1 (fun i => (show ∃ o : Option Addr × Nat × List UInt8, i < m → _ from if him : i < m then (each i him).elim fun o ho => ⟨o, fun _ => ho⟩ else ⟨(none, 0, []), fun h => absurd h him⟩))
    have hlb := bulk_len ((List.range len).map D)
    simp only [List.length_map, List.length_range] at hlb
    refine ⟨some a, m, (List.range len).map f, by simp, fun i o ho => ?_, by simp only [List.length_map, List.length_range]; omega⟩
    have hil : i < len := by
      have := (List.getElem?_eq_some_iff.1 ho).1
      simpa using this
    have hio : o = f i := by
      rw [List.getElem?_map, List.getElem?_range hil] at ho
      simpa using ho.symm
    subst hio
    obtain ⟨-, q1, q2, q3, q4⟩ := hf i (by omega)
    obtain ⟨b, off, rfl, hc⟩ := row_at (f := fun i => .slice (f i).1 (f i).2.2.length (f i).2.1) (len := m) (fun i hi => (hf i hi).1) (i := i) (by omega)
    have hbm := bulk_mem (List.mem_map.2 ⟨i, List.mem_range.2 hil, rfl⟩ : D i ∈ (List.range len).map D)
    exact ⟨b, off, rfl, hc, q1, q2, q3, by omega⟩

theorem raw_again {n : Nat} {cs : List Value} {x : DataW H × List MemPlace} (hb : Below W.heap.size W W') (h : DataW.trod enc Tryz.prog W 0 (fun _ => true) true n 61 cs = some x) (hp : ∀ q ∈ x.2, q.block < W.heap.size) :
    ∃ m, DataW.trod enc Tryz.prog W' 0 (fun b => decide (b < W.heap.size)) true m 61 cs = some x :=
  slice_again Tryz.underlying61 hb (by rw [Tryz.cBsK]; omega) (fun _ _ _ h hq => slice_again Tryz.underlying55 hb (by rw [Tryz.cU8K]; omega) (fun n _ _ h hq => ⟨n, trod_any Tryz.laidOutK Tryz.u8R Tryz.u8L Tryz.u8S Tryz.u8I h (fun p hp => same_below hb (hq p hp)) Tryz.u8V⟩) h hq) h hp

end

end Go.Proofs.YtckmppkdpnhodaaGreatDoor
