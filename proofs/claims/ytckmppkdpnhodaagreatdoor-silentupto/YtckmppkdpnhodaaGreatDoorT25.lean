/-
  Frames in memory, one behind the other; how a letter is laid into them. wire.Write.
-/
import Derived.Test.YtckmppkdpnhodaaGreatDoorT24
import Derived.Test.YtckmppkdpnhodaaGreatDoorT14
namespace Go.Proofs.YtckmppkdpnhodaaGreatDoor
set_option linter.unusedVariables false
set_option linter.unusedSimpArgs false
open Go.RowKit Go.Proofs

/-- A row of frames: each in a block of its own. -/
structure FrRow (B : Nat) (fv : Value) (vs : List Value) (fs : List (List UInt8)) (W : World) : Prop where
  row : W.ownsRow B 55 1 fv vs.length vs
  len : vs.length = fs.length
  each : ∀ (i : Nat) (v : Value) (f : List UInt8), vs[i]? = some v → fs[i]? = some f → W.ownsRow B 5 1 v f.length (Lib.byteCells f)
  apart : ∀ v ∈ vs, ∀ b, v.ownBlock = some b → fv.ownBlock ≠ some b
  dist : vs.Pairwise fun x y => ∀ b, x.ownBlock = some b → y.ownBlock ≠ some b

theorem FrRow.nil (B : Nat) (W : World) : FrRow B (.slice none 0 0) [] [] W := ⟨⟨rfl, .inl ⟨rfl, rfl⟩⟩, rfl, by simp, by simp, List.Pairwise.nil⟩

theorem FrRow.mem {B : Nat} {fv : Value} {vs : List Value} {fs : List (List UInt8)} {W : World} (h : FrRow B fv vs fs W) {v : Value} (hv : v ∈ vs) : ∃ f : List UInt8, W.ownsRow B 5 1 v f.length (Lib.byteCells f) := by
  obtain ⟨i, hi, rfl⟩ := List.mem_iff_getElem.1 hv
  have hf : i < fs.length := by rw [← h.len]; exact hi
  exact ⟨fs[i], h.each i _ _ (List.getElem?_eq_getElem hi) (List.getElem?_eq_getElem hf)⟩

theorem FrRow.upd {B : Nat} {fv : Value} {vs : List Value} {fs : List (List UInt8)} {W W' : World} {S : List (Option Nat)} (h : FrRow B fv vs fs W) (hu : Upd S W W') (hf : ∀ b, fv.ownBlock = some b → some b ∉ S) (hv : ∀ v ∈ vs, ∀ b, v.ownBlock = some b → some b ∉ S) : FrRow B fv vs fs W' :=
  ⟨hu.owns h.row hf, h.len, fun i v f h1 h2 => hu.owns (h.each i v f h1 h2) (hv v (List.mem_iff_getElem?.2 ⟨i, h1⟩)), h.apart, h.dist⟩

theorem FrRow.below {B : Nat} {fv : Value} {vs : List Value} {fs : List (List UInt8)} {W W' : World} (h : FrRow B fv vs fs W) (hb : Below W.heap.size W W') : FrRow B fv vs fs W' := h.upd (Upd.of_below (S := []) hb) (by simp) (by simp)

/-- One frame more. -/
theorem FrRow.snoc {B : Nat} {fv : Value} {vs : List Value} {fs : List (List UInt8)} {W W2 w3 : World} {v : Value} {f : List UInt8} {g cap : Nat} (h : FrRow B fv vs fs W) (hr : W.ownsRow B 5 1 v f.length (Lib.byteCells f)) (h1 : ∀ b, v.ownBlock = some b → fv.ownBlock ≠ some b) (h2 : ∀ x ∈ vs, ∀ b, x.ownBlock = some b → v.ownBlock ≠ some b)
    (hb : Below W.heap.size W W2) (ho : w3.ownsRow B 55 1 (.slice (some ⟨g, 0, none⟩) (vs.length + 1) cap) (vs.length + 1) (vs ++ [v])) (hg : W2.grownBy w3 fv.ownBlock) (hat : fv.ownBlock = some g ∨ g = W2.heap.size) :
    FrRow B (.slice (some ⟨g, 0, none⟩) (vs.length + 1) cap) (vs ++ [v]) (fs ++ [f]) w3 := by
  have hu : Upd [fv.ownBlock] W w3 := (Upd.of_below (S := [fv.ownBlock]) hb).grown hg fun k hk => .inl (by simp [hk])
  have hall : ∀ x ∈ vs ++ [v], (∃ f' : List UInt8, W.ownsRow B 5 1 x f'.length (Lib.byteCells f')) ∧ ∀ b, x.ownBlock = some b → fv.ownBlock ≠ some b := by
    intro x hx
    rcases List.mem_append.1 hx with hx | hx
    · exact ⟨h.mem hx, h.apart x hx⟩
    · cases List.mem_singleton.1 hx
      exact ⟨⟨f, hr⟩, h1⟩
  refine ⟨by rw [List.length_append]; exact ho, by simp [h.len], fun i x f' hx hf => ?_, fun x hx b hxb => ?_, ?_⟩
  · have hxm : x ∈ vs ++ [v] := List.mem_iff_getElem?.2 ⟨i, hx⟩
    have ha := (hall x hxm).2
    have hW : W.ownsRow B 5 1 x f'.length (Lib.byteCells f') := by
      by_cases hi : i < vs.length
      · rw [List.getElem?_append_left hi] at hx
        rw [List.getElem?_append_left (by rw [← h.len]; exact hi)] at hf
        exact h.each i x f' hx hf
      · rw [List.getElem?_append_right (by omega)] at hx
        rw [List.getElem?_append_right (by rw [← h.len]; omega), ← h.len] at hf
        rcases Nat.eq_zero_or_pos (i - vs.length) with h0 | h0
        · rw [h0] at hx hf
          simp at hx hf
          subst hx hf
          exact hr
        · rw [List.getElem?_eq_none (by simp; omega)] at hx
          cases hx
    exact hu.owns hW fun k hk hm => ha k hk (List.mem_singleton.1 hm).symm
  · obtain ⟨⟨f', hf'⟩, ha⟩ := hall x hx
    intro e
    obtain rfl : g = b := by simpa [Value.ownBlock] using e
    rcases hat with e2 | e2
    · exact ha g hxb e2
    · have := (hf'.lt _ hxb).2
      have := hb.size
      omega
  · rw [List.pairwise_append]
    refine ⟨h.dist, by simp, fun x hx y hy => ?_⟩
    cases List.mem_singleton.1 hy
    exact h2 x hx

/-- A letter's entries, laid into frames behind a body that has been begun; hd the head. -/
def lay (hd : List UInt8) : List UInt8 → List En → List (List UInt8)
  | body, [] => [sealB body]
  | body, x :: l => if 195 < body.length + (entB x).length then sealB body :: lay hd (hd ++ entB x) l else lay hd (body ++ entB x) l

def headB (a b h : Nat) : List UInt8 := UInt8.ofNat a :: UInt8.ofNat b :: numB h
def writeB (a b h : Nat) (es : List En) : List (List UInt8) := lay (headB a b h) (headB a b h) es

theorem headB_len (a b : Nat) {h : Nat} (hh : h < 1152921504606846976) : (headB a b h).length ≤ 11 ∧ 2 ≤ (headB a b h).length := by
  have := numB_len 8 h (by omega)
  unfold headB
  simp
  omega

theorem entB_len (x : En) : (entB x).length ≤ 64 := by
  unfold entB
  have h1 := aheadB_len x.ha 5
  have h2 := textOf_size x.hc
  have h3 : (textOf x.c).data.toList.length = (textOf x.c).size := Array.length_toList
  simp only [List.length_append, List.length_cons, List.length_nil]
  omega

theorem entB_pos (x : En) : 0 < (entB x).length := by unfold entB; simp; omega

end Go.Proofs.YtckmppkdpnhodaaGreatDoor

namespace Go.Proofs.YtckmppkdpnhodaaGreatDoor
set_option linter.unusedVariables false
set_option linter.unusedSimpArgs false
open Go.RowKit Go.Proofs

attribute [local go_sem ↓] Go.wp_at_zero Go.wp_at_succ

theorem Tryz.infoBs : (Tryz.prog.info? 55).map (fun i => (i.zero, i.size, i.bytes)) = some (some (.slice none 0 0), 1, 24) := by kernel_rfl

/-- The frames that are done, and the body of the next. -/
structure WrM (B : Nat) (wa : World) (fs : List (List UInt8)) (bb : List UInt8) (fv bv : Value) (wr : World) : Prop where
  ex : ∃ vs, FrRow B fv vs fs wr ∧ ∀ x ∈ vs, ∀ b, x.ownBlock = some b → bv.ownBlock ≠ some b
  body : BNew B wa bv bb wr
  apart : ∀ b, bv.ownBlock = some b → fv.ownBlock ≠ some b

theorem WrM.below {B : Nat} {wa : World} {fs : List (List UInt8)} {bb : List UInt8} {fv bv : Value} {wr W : World} (h : WrM B wa fs bb fv bv wr) (hB : B ≤ wr.heap.size) (hb : Below wr.heap.size wr W) : WrM B wa fs bb fv bv W := by
  obtain ⟨vs, h1, h2⟩ := h.ex
  exact ⟨⟨vs, h1.below hb, h2⟩, ⟨(Upd.of_below (S := []) hb).owns h.body.row (by simp), h.body.below.trans (hb.mono hB)⟩, h.apart⟩

/-- The body has grown. -/
theorem WrM.fits {B : Nat} {wa : World} {fs : List (List UInt8)} {bb pc : List UInt8} {fv bv : Value} {w2 w3 : World} {g cap n : Nat} (h : WrM B wa fs bb fv bv w2) (hB : B ≤ w2.heap.size) (hn : n = (bb ++ pc).length) (ho : w3.ownsRow B 5 1 (.slice (some ⟨g, 0, none⟩) n cap) n (Lib.byteCells bb ++ Lib.byteCells pc)) (hg : w2.grownBy w3 bv.ownBlock) (hat : bv.ownBlock = some g ∨ g = w2.heap.size) :
    WrM B wa fs (bb ++ pc) fv (.slice (some ⟨g, 0, none⟩) n cap) w3 := by
  subst hn
  obtain ⟨vs, h1, h2⟩ := h.ex
  have hu : Upd [bv.ownBlock] w2 w3 := (Upd.refl _ _).grown hg fun k hk => .inl (by simp [hk])
  refine ⟨⟨vs, h1.upd hu (fun b hb hm => h.apart b (List.mem_singleton.1 hm).symm hb) (fun v hv b hb hm => h2 v hv b hb (List.mem_singleton.1 hm).symm), fun x hx b hb e => ?_⟩, ⟨?_, h.body.below.grown hg hB fun k hk => own_ge h.body.row hk⟩, fun b hb e => ?_⟩
  · obtain rfl : g = b := by simpa [Value.ownBlock] using e
    rcases hat with e2 | e2
    · exact h2 x hx g hb e2
    · obtain ⟨f, hf⟩ := h1.mem hx
      have := (hf.lt _ hb).2
      omega
  · have e1 : Lib.byteCells (bb ++ pc) = Lib.byteCells bb ++ Lib.byteCells pc := by simp [Lib.byteCells]
    rw [e1]
    exact ho
  · obtain rfl : g = b := by simpa [Value.ownBlock] using hb
    rcases hat with e2 | e2
    · exact h.apart g e2 e
    · have := (h1.row.lt _ e).2
      omega

/-- The body has become a frame. -/
theorem FrRow.seals {B : Nat} {wa : World} {vs : List Value} {fs : List (List UInt8)} {f : List UInt8} {fv sv : Value} {w2 w3 w3a w4 : World} {g cap : Nat} (h : FrRow B fv vs fs w2) (ha : Below B wa w2) (hB : B ≤ w2.heap.size) (hs : BNew w2.heap.size w2 sv f w3) (hb : Below w3.heap.size w3 w3a)
    (ho : w4.ownsRow B 55 1 (.slice (some ⟨g, 0, none⟩) (vs.length + 1) cap) (vs.length + 1) (vs ++ [sv])) (hg : w3a.grownBy w4 fv.ownBlock) (hat : fv.ownBlock = some g ∨ g = w3a.heap.size) :
    FrRow B (.slice (some ⟨g, 0, none⟩) (vs.length + 1) cap) (vs ++ [sv]) (fs ++ [f]) w4 ∧ Below B wa w4 := by
  have h3 := h.below hs.below
  have hsz := hs.below.size
  refine ⟨h3.snoc (owns_base hs.row hB) (fun b hb e => ?_) (fun x hx b hb e => ?_) hb ho hg hat, ?_⟩
  · have := own_ge hs.row hb
    have := (h.row.lt _ e).2
    omega
  · obtain ⟨f', hf'⟩ := h.mem hx
    have := (hf'.lt _ hb).2
    have := own_ge hs.row e
    omega
  · have h5 : Below B wa w3a := (ha.trans (hs.below.mono hB)).trans (hb.mono (by omega))
    exact h5.grown hg (by have := hb.size; omega) fun k hk => own_ge h.row hk

theorem own_bytes {w : World} {B g n cap : Nat} {l : List UInt8} (h : w.ownsRow B 5 1 (.slice (some ⟨g, 0, none⟩) n cap) l.length (Lib.byteCells l)) (i : Nat) (x : UInt8) (hx : l[i]? = some x) : w.cell? ⟨g, 0 + i, none⟩ = some (.int .u8 (x.toNat : Int)) := by
  obtain ⟨p, c, hv, hc⟩ := bytes_of_own h
  obtain ⟨b, off, hp, hcell⟩ := hc i x hx
  rw [hp] at hv
  simp only [Value.slice.injEq, Option.some.injEq, Addr.mk.injEq, and_true] at hv
  obtain ⟨⟨rfl, rfl⟩, -⟩ := hv
  exact hcell

/-- A new body. -/
theorem FrRow.heads {B : Nat} {wa : World} {vs : List Value} {fs : List (List UInt8)} {hd : List UInt8} {fv hv : Value} {w4 w5 : World} (h : FrRow B fv vs fs w4) (hB : B ≤ w4.heap.size) (ha : Below B wa w4) (hn : BNew w4.heap.size w4 hv hd w5) : WrM B wa fs hd fv hv w5 := by
  refine ⟨⟨vs, h.below hn.below, fun x hx b hb e => ?_⟩, ⟨owns_base hn.row hB, ha.trans (hn.below.mono hB)⟩, fun b hb e => ?_⟩
  · obtain ⟨f', hf'⟩ := h.mem hx
    have := (hf'.lt _ hb).2
    have := own_ge hn.row e
    omega
  · have := own_ge hn.row hb
    have := (h.row.lt _ e).2
    omega

set_option maxRecDepth 100000 in
set_option maxHeartbeats 8000000 in
theorem writeG (a b h : Nat) (ha : a < 256) (hb : b < 256) (hh : h < 1152921504606846976) (es : List En) (hes : es.length ≤ 1000) (ev : Value) (w : World) (hv : VerbsAt w) (hR : RemAt w) (hG : 1 < w.heap.size) (hrow : w.ownsRow 0 122 10 ev es.length (enRow es)) :
    Calls Tryz.prog 58 #[.agg #[.int .i64 (a : Int), .int .i64 (b : Int), .int .i64 (h : Int), ev]] w fun e w' => ∃ fv vs, e = .returned fv ∧ FrRow w.heap.size fv vs (writeB a b h es) w' ∧ Below w.heap.size w w' := by
  obtain ⟨i0, hi0, hz0, hz1, hz2⟩ := info_parts Tryz.infoU8
  obtain ⟨i1, hi1, hy0, hy1, hy2⟩ := info_parts Tryz.infoBs
  obtain ⟨pe, ce, hev⟩ := own_form hrow
  subst hev
  have hhl := headB_len a b hh
  go_enter Tryz.func58, Tryz.ntmps58
  go_upto_region 2 with fail
  obtain ⟨wa, hwa⟩ : ∃ wa, w.alloc (.cells #[.int .i64 (a : Int), .int .i64 (b : Int), .int .i64 (h : Int), .slice pe es.length ce] 140) = wa := ⟨_, rfl⟩
  have hea : wa.heap[w.heap.size]? = some (.cells #[.int .i64 (a : Int), .int .i64 (b : Int), .int .i64 (h : Int), .slice pe es.length ce] 140 (0, 0)) := by rw [← hwa]; exact heap_alloc_new w _
  have HBA : Hid (Below w.heap.size w wa) := by show Below _ _ _; rw [← hwa]; exact (Below.refl _ w).alloc (Nat.le_refl _) _
  have hsa : wa.heap.size = w.heap.size + 1 := by rw [← hwa]; simp
  rw [hwa]
  clear hwa
  have a0 : wa.cell? ⟨w.heap.size, 0, none⟩ = some (.int .i64 (a : Int)) := by rw [cell_of_heap hea]; rfl
  have a1 : wa.cell? ⟨w.heap.size, 1, none⟩ = some (.int .i64 (b : Int)) := by rw [cell_of_heap hea]; rfl
  have a2 : wa.cell? ⟨w.heap.size, 2, none⟩ = some (.int .i64 (h : Int)) := by rw [cell_of_heap hea]; rfl
  have a3 : wa.cell? ⟨w.heap.size, 3, none⟩ = some (.slice pe es.length ce) := by rw [cell_of_heap hea]; rfl
  have HV : Hid (∀ W, Below wa.heap.size wa W → VerbsAt W) := fun W hW => (hv.below HBA.out).below hW
  have HR : Hid (∀ W, Below wa.heap.size wa W → RemAt W ∧ 1 < W.heap.size) := fun W hW => ⟨fun i hi => (hW.cell (p := ⟨1, i, none⟩) (by show 1 < wa.heap.size; omega)).trans ((HBA.out.cell (p := ⟨1, i, none⟩) hG).trans (hR i hi)), by have := hW.size; omega⟩
  have HE : Hid (∀ W, Below wa.heap.size wa W → W.ownsRow 0 122 10 (.slice pe es.length ce) es.length (enRow es)) := fun W hW => (Upd.of_below (S := []) hW).owns ((Upd.of_below (S := []) HBA.out).owns hrow (by simp)) (by simp)
  have HC : Hid (∀ W, Below wa.heap.size wa W → W.cell? ⟨w.heap.size, 0, none⟩ = some (.int .i64 (a : Int)) ∧ W.cell? ⟨w.heap.size, 1, none⟩ = some (.int .i64 (b : Int)) ∧ W.cell? ⟨w.heap.size, 2, none⟩ = some (.int .i64 (h : Int)) ∧ W.cell? ⟨w.heap.size, 3, none⟩ = some (.slice pe es.length ce)) := fun W hW => ⟨cell_below hW a0, cell_below hW a1, cell_below hW a2, cell_below hW a3⟩
  have HH : Hid (∀ W, Calls Tryz.prog 102 #[.agg #[.int .i64 (a : Int), .int .i64 (b : Int), .int .i64 (h : Int), .slice pe es.length ce]] W fun e w' => ∃ v', e = .returned v' ∧ BNew W.heap.size W v' (headB a b h) w') := fun W => headG a b h ha hb hh pe es.length ce W
  have HW : Hid (writeB a b h es = lay (headB a b h) (headB a b h) es) := rfl
  generalize headB a b h = hd at *
  clear hv hR hrow hea hG
  go_upto_region 3 with (go_at_call 102; refine (HH.out _).mono ?_; rintro e w1 ⟨v1, rfl, hn1⟩)
  have HN1 : Hid (BNew wa.heap.size wa v1 hd w1) := hn1
  have c3 := cell_below hn1.below a3
  clear hn1 a0 a1 a2 a3
  go_wp2
  go_loopw [3, 4, 13] (fun fv bv i wr => ∃ (j : Nat) (bb : List UInt8) (fs : List (List UInt8)), j ≤ es.length ∧ i = .int .i64 j ∧ 2 ≤ bb.length ∧ bb.length ≤ 195 ∧ fs.length ≤ j ∧ Hid (WrM wa.heap.size wa fs bb fv bv wr) ∧ Hid (fs ++ lay hd bb (es.drop j) = lay hd hd es)) (fun _ _ i _ => es.length - (intOf i).toNat)
  case atStart => exact ⟨0, hd, [], Nat.zero_le _, rfl, by omega, by omega, Nat.le_refl _, ⟨⟨[], FrRow.nil _ _, by simp⟩, HN1.out, by simp [Value.ownBlock]⟩, rfl⟩
  case round =>
    obtain ⟨j, bb, fs, hj, rfl, hb2, hb195, hfj, HI, HQ⟩ := hrel
    obtain ⟨pb, cb, hbv⟩ := own_form HI.out.body.row
    subst hbv
    have hsz := HI.out.body.below.size
    by_cases hlt : j < es.length
    · obtain ⟨g, cap, hge, hgl, e0, e1, e2, e3, e4, e5, e6, e7, e8, e9⟩ := en_cells (HE.out wr HI.out.body.below) hlt
      obtain ⟨rfl, -, rfl⟩ : pe = some ⟨g, 0, none⟩ ∧ True ∧ ce = cap := by simpa using hge
      clear hge
      have j0 : (0 : Int) ≤ (j : Int) := by omega
      have j1 : (j : Int) < (es.length : Int) := by omega
      have hel := entB_len es[j]
      have hep := entB_pos es[j]
      have HD : Hid (es.drop j = es[j] :: es.drop (j + 1)) := List.drop_eq_getElem_cons hlt
      generalize es[j] = x at *
      go_upto_region 6 with fail
      clear e0 e1 e2 e3 e4 e5 e6 e7 e8 e9
      obtain ⟨wb, hwb⟩ : ∃ wb, wr.alloc (.cells #[.int .i64 (x.org : Int), .int .i64 (x.seq : Int), .int .i64 (x.ah.a : Int), .int .i64 (x.ah.b : Int), .int .i64 (x.ah.c : Int), .int .i64 (x.ah.d : Int), .int .i64 (x.ah.e : Int), .int .i64 (x.c.k.num : Int), .string x.c.word, .int .i64 (x.c.count : Int)] 122) = wb := ⟨_, rfl⟩
      have hhe : wb.heap[wr.heap.size]? = some (.cells #[.int .i64 (x.org : Int), .int .i64 (x.seq : Int), .int .i64 (x.ah.a : Int), .int .i64 (x.ah.b : Int), .int .i64 (x.ah.c : Int), .int .i64 (x.ah.d : Int), .int .i64 (x.ah.e : Int), .int .i64 (x.c.k.num : Int), .string x.c.word, .int .i64 (x.c.count : Int)] 122 (0, 0)) := by rw [← hwb]; exact heap_alloc_new wr _
      have hbb : Below wr.heap.size wr wb := by rw [← hwb]; exact (Below.refl _ wr).alloc (Nat.le_refl _) _
      have hsb : wb.heap.size = wr.heap.size + 1 := by rw [← hwb]; simp
      rw [hwb]
      clear hwb
      have d0 : wb.cell? ⟨wr.heap.size, 0, none⟩ = some (.int .i64 (x.org : Int)) := by rw [cell_of_heap hhe]; rfl
      have d1 : wb.cell? ⟨wr.heap.size, 1, none⟩ = some (.int .i64 (x.seq : Int)) := by rw [cell_of_heap hhe]; rfl
      have d2 : wb.cell? ⟨wr.heap.size, 2, none⟩ = some (.int .i64 (x.ah.a : Int)) := by rw [cell_of_heap hhe]; rfl
      have d3 : wb.cell? ⟨wr.heap.size, 3, none⟩ = some (.int .i64 (x.ah.b : Int)) := by rw [cell_of_heap hhe]; rfl
      have d4 : wb.cell? ⟨wr.heap.size, 4, none⟩ = some (.int .i64 (x.ah.c : Int)) := by rw [cell_of_heap hhe]; rfl
      have d5 : wb.cell? ⟨wr.heap.size, 5, none⟩ = some (.int .i64 (x.ah.d : Int)) := by rw [cell_of_heap hhe]; rfl
      have d6 : wb.cell? ⟨wr.heap.size, 6, none⟩ = some (.int .i64 (x.ah.e : Int)) := by rw [cell_of_heap hhe]; rfl
      have d7 : wb.cell? ⟨wr.heap.size, 7, none⟩ = some (.int .i64 (x.c.k.num : Int)) := by rw [cell_of_heap hhe]; rfl
      have d8 : wb.cell? ⟨wr.heap.size, 8, none⟩ = some (.string x.c.word) := by rw [cell_of_heap hhe]; rfl
      have d9 : wb.cell? ⟨wr.heap.size, 9, none⟩ = some (.int .i64 (x.c.count : Int)) := by rw [cell_of_heap hhe]; rfl
      have hab : Below wa.heap.size wa wb := HI.out.body.below.trans (hbb.mono hsz)
      have HP : Hid (Calls Tryz.prog 103 #[.slice none 0 0, x.val] wb fun e w' => ∃ v', e = .returned v' ∧ BNew wb.heap.size wb v' (entB x) w') := appendEntryG x wb (HV.out wb hab)
      unfold En.val at HP
      have HAB : Hid (Below wa.heap.size wa wb ∧ Below wr.heap.size wr wb) := ⟨hab, hbb⟩
      clear hhe hbb hab
      go_upto_region 7 with (go_at_call 103; refine HP.out.mono ?_; rintro e w2 ⟨pv, rfl, hpv⟩)
      clear d0 d1 d2 d3 d4 d5 d6 d7 d8 d9 HP
      have hs2 := hpv.below.size
      obtain ⟨gp, cp, hpf, hgp, hgp2⟩ := hpv.row.form hep
      subst hpf
      have HPV : Hid (BNew wb.heap.size wb (.slice (some ⟨gp, 0, none⟩) (entB x).length cp) (entB x) w2) := hpv
      have HA2 : Hid (Below wa.heap.size wa w2 ∧ Below wr.heap.size wr w2) := ⟨HAB.out.1.trans (hpv.below.mono (by omega)), HAB.out.2.trans (hpv.below.mono (by omega))⟩
      have HB2 : Hid (w2.ownsRow wa.heap.size 5 1 (.slice pb bb.length cb) bb.length (Lib.byteCells bb)) := (Upd.of_below (S := []) HA2.out.2).owns HI.out.body.row (by simp)
      clear hpv
      generalize hpc : entB x = pc at *
      have HPC : Hid (entB x = pc) := hpc
      clear hpc
      have hbl : (Lib.byteCells pc).length = pc.length * 1 := by simp [Lib.byteCells]
      by_cases hroom : 195 < bb.length + pc.length
      · have e195 : (195 : Int) < (bb.length : Int) + (pc.length : Int) := by omega
        obtain ⟨gb, cb', hbf, hgb, hgb2⟩ := HB2.out.form (by omega)
        obtain ⟨rfl, -, rfl⟩ : pb = some ⟨gb, 0, none⟩ ∧ True ∧ cb = cb' := by simpa using hbf
        clear hbf
        obtain ⟨vs, hfr, -⟩ := HI.out.ex
        have HF2 : Hid (FrRow wa.heap.size u3 vs fs w2) := hfr.below HA2.out.2
        have hvl : vs.length ≤ 1000 := by rw [hfr.len]; omega
        have hgu : ∀ k, u3.ownBlock = some k → k < wr.heap.size := fun k hk => (hfr.row.lt _ hk).2
        have HGU : Hid (∀ k, u3.ownBlock = some k → k < wr.heap.size) := hgu
        clear hfr hgu
        have HS : Hid (Calls Tryz.prog 104 #[.slice (some ⟨gb, 0, none⟩) bb.length cb] w2 fun e w' => ∃ v', e = .returned v' ∧ BNew w2.heap.size w2 v' (sealB bb) w') := sealG gb 0 cb bb (by omega) w2 (own_bytes HB2.out) (HR.out w2 HA2.out.1).1 (HR.out w2 HA2.out.1).2
        have HQ2 : Hid ((fs ++ [sealB bb]) ++ lay hd (hd ++ pc) (es.drop (j + 1)) = lay hd hd es) := by
          show _ = _
          rw [← HQ.out, HD.out, lay, HPC.out, if_pos hroom]
          simp
        go_upto_region 9 with (first
          | (go_at_call 104; refine HS.out.mono ?_; rintro e w3 ⟨sv, rfl, hsv⟩; obtain ⟨ps, cs, hsf⟩ := own_form hsv.row; subst hsf; have hs3 := hsv.below.size; have HSV : Hid (BNew w2.heap.size w2 (.slice ps (sealB bb).length cs) (sealB bb) w3) := hsv; clear hsv; have HF3 : Hid (∀ o, (w3.alloc o).ownsRow wa.heap.size 55 1 u3 vs.length vs ∧ Below w3.heap.size w3 (w3.alloc o)) := fun o => ⟨(Upd.of_below (S := []) ((Below.refl _ w3).alloc (Nat.le_refl _) o)).owns (HF2.out.below HSV.out.below).row (by simp), (Below.refl _ w3).alloc (Nat.le_refl _) o⟩)
          | (at_builtin; refine wpList_append_lies _ rfl _ _ 61 rfl wa.heap.size 55 i1 (.slice none 0 0) 1 24 Tryz.underlying61 hi1 hy0 hy1 hy2 rfl (by decide) u3 vs.length vs (by rfl) (HF3.out _).1 ⟨w3.heap.size, 0, none⟩ 1 1 [.slice ps (sealB bb).length cs] (by rfl) (by rfl) (World.news_of_block (heap_alloc_new _ _)) (by simp [Value.oneCell']) (by omega) (by unfold maxLen; omega) (by omega) (by simp; omega) (w3.heap.size + 1) (by simp) ?_; intro g4 cap4 w4 ho4 hg4 hat4 hgl4))
        obtain ⟨hf4, hb4⟩ := FrRow.seals (wa := wa) HF2.out HA2.out.1 (by omega) HSV.out (HF3.out (.cells #[.slice ps (sealB bb).length cs] 55)).2 ho4 hg4 (by simpa using hat4)
        have HF4 : Hid (FrRow wa.heap.size (.slice (some ⟨g4, 0, none⟩) (vs.length + 1) cap4) (vs ++ [.slice ps (sealB bb).length cs]) (fs ++ [sealB bb]) w4 ∧ Below wa.heap.size wa w4) := ⟨hf4, hb4⟩
        obtain ⟨k0, k1, k2, k3⟩ := HC.out w4 hb4
        have hs4 := hb4.size
        have hu4 : Upd [u3.ownBlock] w2 w4 := ((Upd.of_below (S := [u3.ownBlock]) HSV.out.below).below (HF3.out _).2).grown hg4 fun k hk => .inl (by simp [hk])
        have HP4 : Hid (w4.ownsRow wb.heap.size 5 1 (.slice (some ⟨gp, 0, none⟩) pc.length cp) pc.length (Lib.byteCells pc)) := hu4.owns HPV.out.row fun k hk hm => by
          obtain rfl : gp = k := by simpa [Value.ownBlock] using hk
          have := HGU.out gp (List.mem_singleton.1 hm).symm
          omega
        have hs24 := hu4.size
        clear hf4 hb4 hu4 ho4 hg4 hat4 hgl4
        go_upto_region 10 with (go_at_call 102; refine (HH.out _).mono ?_; rintro e w5 ⟨hv5, rfl, hn5⟩)
        have hs5 := hn5.below.size
        have HM5 : Hid (WrM wa.heap.size wa (fs ++ [sealB bb]) hd (.slice (some ⟨g4, 0, none⟩) (vs.length + 1) cap4) hv5 w5) := HF4.out.1.heads hs4 HF4.out.2 hn5
        have hnews := ((Upd.of_below (S := []) hn5.below).owns HP4.out (by simp)).cells (g := gp) rfl
        obtain ⟨ph, ch, hhf⟩ := own_form hn5.row
        subst hhf
        have HB5 : Hid (w5.ownsRow wa.heap.size 5 1 (.slice ph hd.length ch) hd.length (Lib.byteCells hd)) := HM5.out.body.row
        clear hn5 k0 k1 k2 k3
        go_wp2_with (at_builtin; refine wpList_append_lies _ rfl _ _ 55 rfl wa.heap.size 5 i0 (.int .u8 0) 1 1 Tryz.underlying55 hi0 hz0 hz1 hz2 rfl (by decide) (.slice ph hd.length ch) hd.length (Lib.byteCells hd) (by rfl) HB5.out ⟨gp, 0, none⟩ pc.length cp (Lib.byteCells pc) (by rfl) hbl hnews byteCells_one (by omega) (by unfold maxLen; omega) (by omega) (by omega) w5.heap.size rfl ?_; intro g6 cap6 w6 ho6 hg6 hat6 _)
        go_roundw
        case rel => exact ⟨j + 1, hd ++ pc, fs ++ [sealB bb], by omega, by simp, by rw [List.length_append]; omega, by rw [List.length_append]; omega, by rw [List.length_append]; simp; omega, HM5.out.fits (by omega) (by rw [List.length_append]) ho6 hg6 hat6, HQ2.out⟩
        case measure => simp [intOf]; omega
      · have e195 : ¬ (195 : Int) < (bb.length : Int) + (pc.length : Int) := by omega
        have HM2 : Hid (WrM wa.heap.size wa fs bb u3 (.slice pb bb.length cb) w2) := HI.out.below hsz HA2.out.2
        have HQ2 : Hid (fs ++ lay hd (bb ++ pc) (es.drop (j + 1)) = lay hd hd es) := by
          show _ = _
          rw [← HQ.out, HD.out, lay, HPC.out, if_neg hroom]
        have hnews := HPV.out.row.cells (g := gp) rfl
        go_wp2_with (at_builtin; refine wpList_append_lies _ rfl _ _ 55 rfl wa.heap.size 5 i0 (.int .u8 0) 1 1 Tryz.underlying55 hi0 hz0 hz1 hz2 rfl (by decide) (.slice pb bb.length cb) bb.length (Lib.byteCells bb) (by rfl) HB2.out ⟨gp, 0, none⟩ pc.length cp (Lib.byteCells pc) (by rfl) hbl hnews byteCells_one (by omega) (by unfold maxLen; omega) (by omega) (by omega) w2.heap.size rfl ?_; intro g3 cap3 w3 ho3 hg3 hat3 _)
        go_roundw
        case rel => exact ⟨j + 1, bb ++ pc, fs, by omega, by simp, by rw [List.length_append]; omega, by rw [List.length_append]; omega, by omega, HM2.out.fits (by omega) (by rw [List.length_append]) ho3 hg3 hat3, HQ2.out⟩
        case measure => simp [intOf]; omega
    · obtain rfl : j = es.length := by omega
      have HQ2 : Hid (fs ++ [sealB bb] = lay hd hd es) := by
        show _ = _
        rw [← HQ.out, List.drop_length, lay]
      obtain ⟨gb, cb', hbf, hgb, hgb2⟩ := HI.out.body.row.form (by omega)
      obtain ⟨rfl, -, rfl⟩ : pb = some ⟨gb, 0, none⟩ ∧ True ∧ cb = cb' := by simpa using hbf
      clear hbf
      obtain ⟨vs, hfr, -⟩ := HI.out.ex
      have HF2 : Hid (FrRow wa.heap.size u3 vs fs wr) := hfr
      have hvl : vs.length ≤ 1000 := by rw [hfr.len]; omega
      clear hfr
      have HS : Hid (Calls Tryz.prog 104 #[.slice (some ⟨gb, 0, none⟩) bb.length cb] wr fun e w' => ∃ v', e = .returned v' ∧ BNew wr.heap.size wr v' (sealB bb) w') := sealG gb 0 cb bb (by omega) wr (own_bytes HI.out.body.row) (HR.out wr HI.out.body.below).1 (HR.out wr HI.out.body.below).2
      go_wp2_with (first
        | (go_at_call 104; refine HS.out.mono ?_; rintro e w3 ⟨sv, rfl, hsv⟩; obtain ⟨ps, cs, hsf⟩ := own_form hsv.row; subst hsf; have hs3 := hsv.below.size; have HSV : Hid (BNew wr.heap.size wr (.slice ps (sealB bb).length cs) (sealB bb) w3) := hsv; clear hsv; have HF3 : Hid (∀ o, (w3.alloc o).ownsRow wa.heap.size 55 1 u3 vs.length vs ∧ Below w3.heap.size w3 (w3.alloc o)) := fun o => ⟨(Upd.of_below (S := []) ((Below.refl _ w3).alloc (Nat.le_refl _) o)).owns (HF2.out.below HSV.out.below).row (by simp), (Below.refl _ w3).alloc (Nat.le_refl _) o⟩)
        | (at_builtin; refine wpList_append_lies _ rfl _ _ 61 rfl wa.heap.size 55 i1 (.slice none 0 0) 1 24 Tryz.underlying61 hi1 hy0 hy1 hy2 rfl (by decide) u3 vs.length vs (by rfl) (HF3.out _).1 ⟨w3.heap.size, 0, none⟩ 1 1 [.slice ps (sealB bb).length cs] (by rfl) (by rfl) (World.news_of_block (heap_alloc_new _ _)) (by simp [Value.oneCell']) (by omega) (by unfold maxLen; omega) (by omega) (by simp; omega) (w3.heap.size + 1) (by simp) ?_; intro g4 cap4 w4 ho4 hg4 hat4 hgl4))
      go_ret
      obtain ⟨hf4, hb4⟩ := FrRow.seals (wa := wa) HF2.out HI.out.body.below (by omega) HSV.out (HF3.out (.cells #[.slice ps (sealB bb).length cs] 55)).2 ho4 hg4 (by simpa using hat4)
      rw [HW.out, ← HQ2.out]
      exact ⟨_, _, rfl, ⟨owns_base hf4.row (by omega), hf4.len, fun i v f h1 h2 => owns_base (hf4.each i v f h1 h2) (by omega), hf4.apart, hf4.dist⟩, HBA.out.trans (hb4.mono (by omega))⟩

end Go.Proofs.YtckmppkdpnhodaaGreatDoor
