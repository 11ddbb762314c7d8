/-
  bytes.Equal, wire.unseal. Spoilt frames are told: one byte changed, cut, bytes behind. What Write lays, piece by piece. Frames that are handed out, in memory.
-/
import Derived.Test.YtckmppkdpnhodaaGreatDoorT24
import Derived.Laws.BytesArg
import Derived.Lib.Bytes
import Derived.Test.YtckmppkdpnhodaaGreatDoorT25
namespace Go.Proofs.YtckmppkdpnhodaaGreatDoor
set_option linter.unusedVariables false
set_option linter.unusedSimpArgs false
open Go.RowKit Go.Proofs

attribute [local go_sem ↓] Go.wp_at_zero Go.wp_at_succ

def strB (l : List UInt8) : ByteArray := ⟨l.toArray⟩

theorem strOf_nums (l : List UInt8) : strOfNums (l.map fun x => (x.toNat : Int)) = strB l := by
  have h : (l.map fun x => (x.toNat : Int)).map (fun n => UInt8.ofNat n.toNat) = l := by
    rw [List.map_map]
    conv => rhs; rw [← List.map_id l]
    exact List.map_congr_left fun x _ => by simp
  unfold strOfNums strB
  rw [h]

theorem conv_bytes {w : World} {v : Value} {l : List UInt8} (h : BytesAt w v l) : (convert 55 9 v).run Tryz.prog w = .ok (.string (strB l)) w := by
  obtain ⟨p, cap, rfl, hc⟩ := h
  by_cases h0 : l = []
  · subst h0
    rcases p with _ | p <;> kernel_rfl
  · obtain ⟨x, t, rfl⟩ : ∃ x t, l = x :: t := by cases l with | nil => exact absurd rfl h0 | cons x t => exact ⟨x, t, rfl⟩
    obtain ⟨b, off, rfl, -⟩ := hc 0 x rfl
    rw [← strOf_nums]
    refine run_convert_bytes_arg (P := Tryz.prog) w 55 5 Tryz.underlying55 Tryz.underlying5 b off (x :: t).length cap _ (by simp) (fun i hi => ?_) 9 Tryz.underlying9
    obtain ⟨b', off', hp, hcell⟩ := hc i (x :: t)[i] (List.getElem?_eq_getElem hi)
    simp only [Option.some.injEq, Addr.mk.injEq, and_true] at hp
    obtain ⟨rfl, rfl⟩ := hp
    rw [hcell]
    rw [List.getD, List.getElem?_map, List.getElem?_eq_getElem hi]
    rfl

theorem strB_list (a : List UInt8) : (strB a).toList = a := by
  rw [← strOf_nums, Lib.strOfNums_toList]
  have h := congrArg (fun b : ByteArray => b.data.toList) (strOf_nums a)
  exact h

theorem strB_beq (a b : List UInt8) : ((strB a).toList == (strB b).toList) = decide (a = b) := by
  rw [strB_list, strB_list]
  by_cases h : a = b
  · subst h; simp
  · simp [h]

set_option maxHeartbeats 1000000 in
theorem equalG (v1 v2 : Value) (a b : List UInt8) (w : World) (h1 : BytesAt w v1 a) (h2 : BytesAt w v2 b) :
    Calls Tryz.prog 144 #[v1, v2] w fun e w' => e = .returned (.bool (decide (a = b))) ∧ w' = w := by
  have c1 := conv_bytes h1
  have c2 := conv_bytes h2
  clear h1 h2
  rw [← strB_beq]
  generalize strB a = sa at *
  generalize strB b = sb at *
  go_enter Tryz.func144, Tryz.ntmps144
  go_wp2
  go_ret
  exact ⟨rfl, rfl⟩

/-- What lies between the length and the sum. -/
def bodyB (f : List UInt8) : List UInt8 := (f.drop 1).take (f.length - 5)
/-- The body of a frame that was not spoilt. -/
def okB (f : List UInt8) : Bool := decide (5 ≤ f.length) && decide (f.length ≤ 200) && decide (sealB (bodyB f) = f)

theorem bodyB_len {f : List UInt8} (h : 5 ≤ f.length) : (bodyB f).length = f.length - 5 := by
  unfold bodyB
  rw [List.length_take, List.length_drop]
  omega

theorem bodyB_get {f : List UInt8} {i : Nat} {x : UInt8} (h : (bodyB f)[i]? = some x) : f[i + 1]? = some x := by
  unfold bodyB at h
  rw [List.getElem?_take] at h
  split at h
  · rw [List.getElem?_drop, Nat.add_comm] at h
    exact h
  · cases h

set_option maxRecDepth 100000 in
set_option maxHeartbeats 4000000 in
theorem unsealG (p : Option Addr) (cap : Nat) (f : List UInt8) (hcap : f.length ≤ cap) (hfl : f.length ≤ 1000000000) (hm : cap ≤ 9223372036854775807) (w : World) (hb : BytesAt w (.slice p f.length cap) f) (hR : RemAt w) (hG : 1 < w.heap.size) :
    Calls Tryz.prog 105 #[.slice p f.length cap] w fun e w' => ∃ v, e = .returned (.tuple #[v, .bool (okB f)]) ∧ (okB f = true → (∃ c, v = .slice (p.map fun a => a.add 1) (bodyB f).length c ∧ (bodyB f).length ≤ c ∧ c ≤ cap) ∧ BytesAt w v (bodyB f)) ∧ Below w.heap.size w w' := by
  by_cases h5 : f.length < 5
  · have e1 : (f.length : Int) < 5 := by omega
    have HO : Hid (okB f = false) := by show _ = _; unfold okB; rw [decide_eq_false (by omega : ¬ 5 ≤ f.length)]; rfl
    go_enter Tryz.func105, Tryz.ntmps105
    go_wp2
    go_ret2
    rw [HO.out]
    exact ⟨_, rfl, by simp, Below.refl _ _⟩
  · by_cases h200 : 200 < f.length
    · have e1 : ¬ (f.length : Int) < 5 := by omega
      have e2 : (200 : Int) < f.length := by omega
      have HO : Hid (okB f = false) := by show _ = _; unfold okB; rw [decide_eq_false (by omega : ¬ f.length ≤ 200)]; simp
      go_enter Tryz.func105, Tryz.ntmps105
      go_wp2
      go_ret2
      rw [HO.out]
      exact ⟨_, rfl, by simp, Below.refl _ _⟩
    · obtain ⟨b, off, rfl⟩ : ∃ b off, p = some ⟨b, off, none⟩ := by
        obtain ⟨p', cap', hv, hc⟩ := hb
        obtain ⟨b, off, hp, -⟩ := hc 0 f[0] (List.getElem?_eq_getElem (by omega))
        simp only [Value.slice.injEq] at hv
        exact ⟨b, off, hv.1.trans hp⟩
      have hc : ∀ (i : Nat) (x : UInt8), f[i]? = some x → w.cell? ⟨b, off + i, none⟩ = some (.int .u8 (x.toNat : Int)) := fun i x hx => by
        obtain ⟨p', cap', hv, hc⟩ := hb
        obtain ⟨b', off', hp, hcell⟩ := hc i x hx
        rw [hp] at hv
        simp only [Value.slice.injEq, Option.some.injEq, Addr.mk.injEq, and_true] at hv
        obtain ⟨⟨rfl, rfl⟩, -⟩ := hv
        exact hcell
      have hl := bodyB_len (f := f) (by omega)
      have HC : Hid (∀ (i : Nat) (x : UInt8), (bodyB f)[i]? = some x → w.cell? ⟨b, off + 1 + i, none⟩ = some (.int .u8 (x.toNat : Int))) := fun i x hx => by
        have := hc (i + 1) x (bodyB_get hx)
        rw [← this]
        congr 2
        omega
      have HB : Hid (BytesAt w (.slice (some ⟨b, off, none⟩) f.length cap) f) := hb
      have HS : Hid (∀ c, Calls Tryz.prog 104 #[.slice (some ⟨b, off + 1, none⟩) (bodyB f).length c] w fun e w' => ∃ v', e = .returned v' ∧ BNew w.heap.size w v' (sealB (bodyB f)) w') := fun c => sealG b (off + 1) c (bodyB f) (by omega) w HC.out hR hG
      have HK : Hid (okB f = decide (sealB (bodyB f) = f)) := by
        show _ = _
        unfold okB
        rw [decide_eq_true (by omega : 5 ≤ f.length), decide_eq_true (by omega : f.length ≤ 200)]
        rfl
      have e1 : ¬ (f.length : Int) < 5 := by omega
      have e2 : ¬ (200 : Int) < f.length := by omega
      clear hc hb hR
      have hsub : (f.length : Int) - 4 = ((f.length - 4 : Nat) : Int) := by omega
      go_enter Tryz.func105, Tryz.ntmps105
      go_upto_region 4 with fail
      have hl2 : f.length - 4 - 1 = (bodyB f).length := by omega
      rw [hl2]
      have hcl : (bodyB f).length ≤ cap - 1 := by omega
      clear hl2 hl
      have HL : Hid ((∃ c, (.slice (some ⟨b, off + 1, none⟩) (bodyB f).length (cap - 1) : Value) = .slice ((some ⟨b, off, none⟩ : Option Addr).map fun a => a.add 1) (bodyB f).length c ∧ (bodyB f).length ≤ c ∧ c ≤ cap) ∧ BytesAt w (.slice (some ⟨b, off + 1, none⟩) (bodyB f).length (cap - 1)) (bodyB f)) := by
        refine ⟨⟨cap - 1, ?_, hcl, by omega⟩, ⟨_, _, rfl, fun i x hx => ⟨b, off + 1, rfl, HC.out i x hx⟩⟩⟩
        have hadd : (⟨b, off, none⟩ : Addr).add 1 = ⟨b, off + 1, none⟩ := by unfold Addr.add; split <;> simp_all
        rw [Option.map_some, hadd]
      generalize hbo : bodyB f = bo at *
      have HBO : Hid (bodyB f = bo) := hbo
      clear hbo
      by_cases hok : sealB bo = f
      · have hko : okB f = true := by rw [HK.out, decide_eq_true hok]
        have HO : Hid (okB f = true) := hko
        have HE : Hid (decide (sealB bo = f) = true) := decide_eq_true hok
        clear hko hok
        go_wp2_with (first
          | (go_at_call 104; refine (HS.out _).mono ?_; rintro e w3 ⟨sv, rfl, hsv⟩; have HSV : Hid (BNew w.heap.size w sv (sealB bo) w3) := hsv; clear hsv)
          | (go_at_call 144; refine (equalG _ _ (sealB bo) f w3 (bytes_of_own HSV.out.row) (by obtain ⟨p', c', h1, h2⟩ := HB.out; exact ⟨p', c', h1, fun i x hx => by obtain ⟨b', o', h3, h4⟩ := h2 i x hx; exact ⟨b', o', h3, cell_below HSV.out.below h4⟩⟩)).mono ?_; rw [HE.out]; rintro e w4 ⟨rfl, hw4⟩; have hw5 := hw4.symm; clear hw4; subst hw5))
        go_ret2
        rw [HO.out, HBO.out]
        exact ⟨_, rfl, fun _ => HL.out, HSV.out.below⟩
      · have hko : okB f = false := by rw [HK.out, decide_eq_false hok]
        have HO : Hid (okB f = false) := hko
        have HE : Hid (decide (sealB bo = f) = false) := decide_eq_false hok
        clear hko hok
        go_wp2_with (first
          | (go_at_call 104; refine (HS.out _).mono ?_; rintro e w3 ⟨sv, rfl, hsv⟩; have HSV : Hid (BNew w.heap.size w sv (sealB bo) w3) := hsv; clear hsv)
          | (go_at_call 144; refine (equalG _ _ (sealB bo) f w3 (bytes_of_own HSV.out.row) (by obtain ⟨p', c', h1, h2⟩ := HB.out; exact ⟨p', c', h1, fun i x hx => by obtain ⟨b', o', h3, h4⟩ := h2 i x hx; exact ⟨b', o', h3, cell_below HSV.out.below h4⟩⟩)).mono ?_; rw [HE.out]; rintro e w4 ⟨rfl, hw4⟩; have hw5 := hw4.symm; clear hw4; subst hw5))
        go_ret2
        rw [HO.out]
        exact ⟨_, rfl, by simp, HSV.out.below⟩

end Go.Proofs.YtckmppkdpnhodaaGreatDoor

namespace Go.Proofs.YtckmppkdpnhodaaGreatDoor
set_option linter.unusedVariables false
set_option linter.unusedSimpArgs false
open Go.RowKit Go.Proofs

/-! ### What a frame that is taken is -/
theorem okB_iff (f : List UInt8) : okB f = true ↔ 5 ≤ f.length ∧ f.length ≤ 200 ∧ sealB (bodyB f) = f := by
  simp [okB, and_assoc]

theorem sealB_len (l : List UInt8) : (sealB l).length = l.length + 5 := by simp [sealB, le4]

theorem bodyB_seal (l : List UInt8) : bodyB (sealB l) = l := by
  unfold bodyB
  rw [sealB_len]
  simp [sealB]

theorem okB_seal {l : List UInt8} (h : l.length ≤ 195) : okB (sealB l) = true := by
  rw [okB_iff, sealB_len, bodyB_seal]
  exact ⟨by omega, by omega, rfl⟩

end Go.Proofs.YtckmppkdpnhodaaGreatDoor

namespace Go.Proofs.YtckmppkdpnhodaaGreatDoor
set_option linter.unusedVariables false
set_option linter.unusedSimpArgs false
open Go.RowKit Go.Proofs

/-- The body of a frame. -/
def pieceB (hd : List UInt8) (l : List En) : List UInt8 := hd ++ l.flatMap entB

theorem lay_pieces (hd : List UInt8) (hh : hd.length ≤ 11) : ∀ (es : List En) (body : List UInt8), body.length ≤ 195 →
    ∃ (e0 : List En) (L : List (List En)), lay hd body es = sealB (pieceB body e0) :: L.map (fun l => sealB (pieceB hd l)) ∧ es = e0 ++ L.flatten ∧ (pieceB body e0).length ≤ 195 ∧ ∀ l ∈ L, (pieceB hd l).length ≤ 195
  | [], body, hb => ⟨[], [], by simp [lay, pieceB], rfl, by simpa [pieceB] using hb, by simp⟩
  | x :: es, body, hb => by
    have hx := entB_len x
    by_cases h : 195 < body.length + (entB x).length
    · obtain ⟨e0, L, h1, h2, h3, h4⟩ := lay_pieces hd hh es (hd ++ entB x) (by rw [List.length_append]; omega)
      have e : pieceB (hd ++ entB x) e0 = pieceB hd (x :: e0) := by simp [pieceB]
      refine ⟨[], (x :: e0) :: L, ?_, by rw [h2]; simp, by simpa [pieceB] using hb, fun l hl => ?_⟩
      · rw [lay, if_pos h, h1, e]
        simp [pieceB]
      · rcases List.mem_cons.1 hl with rfl | hl
        · rw [← e]; exact h3
        · exact h4 l hl
    · obtain ⟨e0, L, h1, h2, h3, h4⟩ := lay_pieces hd hh es (body ++ entB x) (by rw [List.length_append]; omega)
      have e : pieceB (body ++ entB x) e0 = pieceB body (x :: e0) := by simp [pieceB]
      refine ⟨x :: e0, L, ?_, by rw [h2]; simp, by rw [← e]; exact h3, h4⟩
      rw [lay, if_neg h, h1, e]

/-- A letter in frames: each has the head and a run of the entries, and is taken when it comes whole. -/
theorem write_pieces (a b : Nat) {h : Nat} (hh : h < 1152921504606846976) (es : List En) :
    ∃ L : List (List En), writeB a b h es = L.map (fun l => sealB (pieceB (headB a b h) l)) ∧ es = L.flatten ∧ L ≠ [] ∧ ∀ l ∈ L, okB (sealB (pieceB (headB a b h) l)) = true ∧ bodyB (sealB (pieceB (headB a b h) l)) = headB a b h ++ l.flatMap entB := by
  have hl := (headB_len a b hh).1
  obtain ⟨e0, L, h1, h2, h3, h4⟩ := lay_pieces (headB a b h) hl es (headB a b h) (by omega)
  refine ⟨e0 :: L, h1, by rw [h2]; simp, by simp, fun l hm => ⟨okB_seal ?_, bodyB_seal _⟩⟩
  rcases List.mem_cons.1 hm with rfl | hm
  · exact h3
  · exact h4 l hm

end Go.Proofs.YtckmppkdpnhodaaGreatDoor

namespace Go.Proofs.YtckmppkdpnhodaaGreatDoor
set_option linter.unusedVariables false
set_option linter.unusedSimpArgs false
open Go.RowKit Go.Proofs

/-- The cells of frames: to whom, the bytes' slice. -/
def outCells (os : List (Nat × Value × List UInt8)) : List Value := os.flatMap fun o => [.int .i64 ((o.1 : Nat) : Int), o.2.1]

theorem outCells_snoc (os : List (Nat × Value × List UInt8)) (o : Nat × Value × List UInt8) : outCells (os ++ [o]) = outCells os ++ [.int .i64 ((o.1 : Nat) : Int), o.2.1] := by simp [outCells]

/-- A row of frames, each in a block of its own. -/
structure OutRow (B : Nat) (fv : Value) (os : List (Nat × Value × List UInt8)) (W : World) : Prop where
  row : W.ownsRow B 57 2 fv os.length (outCells os)
  each : ∀ o ∈ os, W.ownsRow B 5 1 o.2.1 o.2.2.length (Lib.byteCells o.2.2)
  apart : ∀ o ∈ os, ∀ b, o.2.1.ownBlock = some b → fv.ownBlock ≠ some b
  dist : os.Pairwise fun x y => ∀ b, x.2.1.ownBlock = some b → y.2.1.ownBlock ≠ some b

theorem OutRow.nil (B : Nat) (W : World) : OutRow B (.slice none 0 0) [] W := ⟨⟨rfl, .inl ⟨rfl, rfl⟩⟩, by simp, by simp, List.Pairwise.nil⟩

theorem OutRow.upd {B : Nat} {fv : Value} {os : List (Nat × Value × List UInt8)} {W W' : World} (h : OutRow B fv os W) {S : List (Option Nat)} (hu : Upd S W W') (hf : ∀ b, fv.ownBlock = some b → some b ∉ S) (hv : ∀ o ∈ os, ∀ b, o.2.1.ownBlock = some b → some b ∉ S) : OutRow B fv os W' :=
  ⟨hu.owns h.row hf, fun o ho => hu.owns (h.each o ho) (hv o ho), h.apart, h.dist⟩

theorem OutRow.below {B : Nat} {fv : Value} {os : List (Nat × Value × List UInt8)} {W W' : World} (h : OutRow B fv os W) (hb : Below W.heap.size W W') : OutRow B fv os W' := h.upd (Upd.of_below (S := []) hb) (by simp) (by simp)

theorem OutRow.snoc {B : Nat} {fv : Value} {os : List (Nat × Value × List UInt8)} {W w3 : World} {o : Nat × Value × List UInt8} {g cap : Nat} (h : OutRow B fv os W) (hr : W.ownsRow B 5 1 o.2.1 o.2.2.length (Lib.byteCells o.2.2)) (h1 : ∀ b, o.2.1.ownBlock = some b → fv.ownBlock ≠ some b) (h2 : ∀ x ∈ os, ∀ b, x.2.1.ownBlock = some b → o.2.1.ownBlock ≠ some b)
    (hu : Upd [fv.ownBlock] W w3) (ho : w3.ownsRow B 57 2 (.slice (some ⟨g, 0, none⟩) (os.length + 1) cap) (os.length + 1) (outCells os ++ [.int .i64 ((o.1 : Nat) : Int), o.2.1])) (hat : fv.ownBlock = some g ∨ W.heap.size ≤ g) :
    OutRow B (.slice (some ⟨g, 0, none⟩) (os.length + 1) cap) (os ++ [o]) w3 := by
  have key : ∀ x ∈ os ++ [o], W.ownsRow B 5 1 x.2.1 x.2.2.length (Lib.byteCells x.2.2) ∧ ∀ b, x.2.1.ownBlock = some b → fv.ownBlock ≠ some b := fun x hx => by
    rcases List.mem_append.1 hx with hx | hx
    · exact ⟨h.each x hx, h.apart x hx⟩
    · cases List.mem_singleton.1 hx; exact ⟨hr, h1⟩
  refine ⟨by rw [List.length_append, outCells_snoc]; exact ho, fun x hx => hu.owns (key x hx).1 fun b hb hm => (key x hx).2 b hb (List.mem_singleton.1 hm).symm, fun x hx b hb e => ?_, ?_⟩
  · have hbg : b = g := by cases e; rfl
    subst hbg
    rcases hat with e2 | e2
    · exact (key x hx).2 b hb e2
    · have := ((key x hx).1.lt b hb).2; omega
  · rw [List.pairwise_append]
    refine ⟨h.dist, List.pairwise_singleton _ _, fun x hx y hy => ?_⟩
    cases List.mem_singleton.1 hy
    exact h2 x hx

theorem lay_len (hd : List UInt8) : ∀ (es : List En) (body : List UInt8), (lay hd body es).length ≤ es.length + 1
  | [], body => by simp [lay]
  | x :: es, body => by
    rw [lay]
    split
    · have := lay_len hd es (hd ++ entB x)
      simp only [List.length_cons]; omega
    · have := lay_len hd es (body ++ entB x)
      simp only [List.length_cons]; omega

theorem writeB_len (a b h : Nat) (es : List En) : (writeB a b h es).length ≤ es.length + 1 := lay_len _ _ _

/-- The frames of the mail to one replica. -/
def mailB (me : Nat) (log : List En) (D : Nat → List En) (t : Nat) : List (Nat × List UInt8) := (writeB me t (cntL log t) (D t)).map fun f => (t, f)

theorem mailB_len (me : Nat) (log : List En) (D : Nat → List En) (ts : List Nat) (h : ∀ t ∈ ts, (D t).length ≤ 12) : (ts.flatMap (mailB me log D)).length ≤ 13 * ts.length := by
  induction ts with
  | nil => simp
  | cons t ts ih =>
    rw [List.flatMap_cons, List.length_append, List.length_cons]
    have h1 := ih fun u hu => h u (by simp [hu])
    have h2 := h t (by simp)
    have h3 := writeB_len me t (cntL log t) (D t)
    have h4 : (mailB me log D t).length = (writeB me t (cntL log t) (D t)).length := by simp [mailB]
    omega

/-- While the frames of one letter are being put behind those of the letters before. -/
structure PutI (B B' : Nat) (t : Nat) (fv : Value) (vf : List Value) (fs : List (List UInt8)) (os0 : List (Nat × Value × List UInt8)) (j : Nat) (u : Value) (os : List (Nat × Value × List UInt8)) (W : World) : Prop where
  out : OutRow B u os W
  os : os = os0 ++ ((vf.zip fs).take j).map fun p => (t, p.1, p.2)
  old : ∀ o ∈ os0, ∀ b, o.2.1.ownBlock = some b → b < B'
  fr : FrRow B' fv vf fs W
  far : ∀ b, u.ownBlock = some b → fv.ownBlock ≠ some b ∧ ∀ v ∈ vf, v.ownBlock ≠ some b

theorem PutI.len {B B' t : Nat} {fv : Value} {vf : List Value} {fs : List (List UInt8)} {os0 : List (Nat × Value × List UInt8)} {j : Nat} {u : Value} {os : List (Nat × Value × List UInt8)} {W : World} (h : PutI B B' t fv vf fs os0 j u os W) : os.length ≤ os0.length + fs.length := by
  rw [h.os, List.length_append, List.length_map, List.length_take, List.length_zip]
  omega

theorem PutI.step {B B' t : Nat} (hB : B ≤ B') {fv : Value} {vf : List Value} {fs : List (List UInt8)} {os0 : List (Nat × Value × List UInt8)} {j : Nat} {u : Value} {os : List (Nat × Value × List UInt8)} {W w3 : World} (h : PutI B B' t fv vf fs os0 j u os W) {v : Value} (hv : vf[j]? = some v) {f : List UInt8} (hf : fs[j]? = some f) {g cap : Nat}
    (hu : Upd [u.ownBlock] W w3) (ho : w3.ownsRow B 57 2 (.slice (some ⟨g, 0, none⟩) (os.length + 1) cap) (os.length + 1) (outCells os ++ [.int .i64 (t : Int), v])) (hat : u.ownBlock = some g ∨ W.heap.size ≤ g) :
    PutI B B' t fv vf fs os0 (j + 1) (.slice (some ⟨g, 0, none⟩) (os.length + 1) cap) (os ++ [(t, v, f)]) w3 := by
  have hvm : v ∈ vf := List.mem_of_getElem? hv
  have hjl : j < vf.length := (List.getElem?_eq_some_iff.1 hv).1
  have hjf : j < fs.length := (List.getElem?_eq_some_iff.1 hf).1
  have hvj : vf[j] = v := (List.getElem?_eq_some_iff.1 hv).2
  have hfj : fs[j] = f := (List.getElem?_eq_some_iff.1 hf).2
  have hrow := h.fr.each j v f hv hf
  have hfar : ∀ b, v.ownBlock = some b → u.ownBlock ≠ some b := fun b hb e => (h.far b e).2 v hvm hb
  have hz : (vf.zip fs).length = vf.length := by rw [List.length_zip, h.fr.len]; omega
  have h2 : ∀ x ∈ os, ∀ b, x.2.1.ownBlock = some b → v.ownBlock ≠ some b := fun x hx b hb e => by
    rw [h.os] at hx
    rcases List.mem_append.1 hx with hx | hx
    · have := h.old x hx b hb
      have := own_ge hrow e
      omega
    · rw [List.mem_map] at hx
      obtain ⟨p, hp, rfl⟩ := hx
      obtain ⟨i, hi, rfl⟩ := List.mem_iff_getElem.1 hp
      rw [List.length_take] at hi
      rw [List.getElem_take] at hb
      simp only [List.getElem_zip] at hb
      have hd := List.pairwise_iff_getElem.1 h.fr.dist i j (by omega) hjl (by omega)
      rw [hvj] at hd
      exact hd b hb e
  refine ⟨h.out.snoc (o := (t, v, f)) (owns_base hrow hB) hfar h2 hu ho hat, ?_, h.old, h.fr.upd hu (fun b hb hm => (h.far b (List.mem_singleton.1 hm).symm).1 hb) fun x hx b hb hm => (h.far b (List.mem_singleton.1 hm).symm).2 x hx hb, fun b hb => ?_⟩
  · have e : (vf.zip fs).take (j + 1) = (vf.zip fs).take j ++ [(v, f)] := by
      rw [List.take_succ_eq_append_getElem (by omega)]
      simp [hvj, hfj]
    rw [e, List.map_append, ← List.append_assoc, ← h.os]
    rfl
  · have hbg : b = g := by cases hb; rfl
    subst hbg
    rcases hat with e | e
    · exact h.far b e
    · refine ⟨fun e' => ?_, fun x hx e' => ?_⟩
      · have := (h.fr.row.lt b e').2; omega
      · obtain ⟨f', hf'⟩ := h.fr.mem hx
        have := (hf'.lt b e').2; omega

end Go.Proofs.YtckmppkdpnhodaaGreatDoor
