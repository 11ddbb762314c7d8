/-
  Contract of cartelref.View. The world in memory behind a step that makes memory and turns nothing old; its cells; two texts of one cart are one. (*World).views over the whole world in memory.
-/
import Derived.Test.YtckmppkdpnhodaaGreatDoorT10
import Derived.Test.YtckmppkdpnhodaaGreatDoorT11
import Derived.Deep.QuietTactic
import Derived.BigQuiet
import Derived.Deep.RegionHeld3
import Derived.Test.YtckmppkdpnhodaaGreatDoorT06
import Derived.Test.YtckmppkdpnhodaaGreatDoorT08
namespace Go.Proofs.YtckmppkdpnhodaaGreatDoor
set_option linter.unusedVariables false
set_option linter.unusedSimpArgs false
open Go.RowKit Go.Proofs

/-- A slice of string that reads as these. -/
def StrsAt (w : World) (v : Value) (xs : List ByteArray) : Prop :=
  ∃ p cap, v = .slice p xs.length cap ∧ ∀ (i : Nat) (x : ByteArray), xs[i]? = some x → ∃ g, p = some ⟨g, 0, none⟩ ∧ w.cell? ⟨g, i, none⟩ = some (.string x)

theorem StrsAt.below {w w' : World} {v : Value} {xs : List ByteArray} (h : StrsAt w v xs) (hb : Below w.heap.size w w') : StrsAt w' v xs := by
  obtain ⟨p, cap, hv, hc⟩ := h
  refine ⟨p, cap, hv, fun i x hx => ?_⟩
  obtain ⟨g, hg, hcell⟩ := hc i x hx
  exact ⟨g, hg, cell_below hb hcell⟩

theorem StrsAt.of_owns {w : World} {base : Nat} {e : TypeId} {v : Value} {xs : List ByteArray} (h : w.ownsRow base e 1 v xs.length (xs.map Value.string)) : StrsAt w v xs := by
  rcases h.2 with ⟨rfl, h0⟩ | ⟨g, cap, cur, hv, hb, hg, h1, h2, h3, h4⟩
  · have : xs = [] := List.length_eq_zero_iff.1 h0
    subst this
    exact ⟨none, 0, rfl, fun i x hx => by simp at hx⟩
  · refine ⟨some ⟨g, 0, none⟩, cap, hv, fun i x hx => ⟨g, rfl, ?_⟩⟩
    have := h.cells (g := g) (by rw [hv]; rfl) i (.string x) (by simp [hx])
    rwa [Addr.add_mid, Nat.zero_add] at this

/-- The lines ahead of the kind j. -/
def preL (tr : List Dn) (known : List Nat) (out : List ByteArray) (j : Nat) : List UInt8 :=
  out.flatMap (itemLine tr known) ++ (if 1 ≤ j then out.flatMap (kindLine tr known .established couponW) else []) ++ (if 2 ≤ j then out.flatMap (kindLine tr known .closeWait noteW) else [])

/-- The text of the cart of the known ones. -/
def IsView (tr : List Dn) (known : List Nat) (s : ByteArray) : Prop :=
  ∃ out : List ByteArray, (out.map ByteArray.toList).Pairwise (· < ·) ∧ (∀ x, x ∈ out.map ByteArray.toList ↔ x ∈ wordsOf tr known) ∧ s.data.toList = viewL tr known out

set_option maxRecDepth 100000 in
set_option maxHeartbeats 2000000 in
theorem refview_any (tv kv : Value) (tr : List Dn) (known : List Nat) (w : World) (hT : TraceAt w tv tr) (hK : NatsAt w kv known)
    (hk : ∀ y ∈ known, y < tr.length) (hs : Small tr) (hne : ∀ x ∈ wordsOf tr known, x ≠ []) (hwl : ∀ x ∈ wordsOf tr known, x.length ≤ 8) (hl : tr.length ≤ maxLen) (hkl : known.length ≤ 100000000) :
    Calls Tryz.prog 64 #[tv, kv] w fun e w' => ∃ s, e = .returned (.string s) ∧ IsView tr known s ∧ Below w.heap.size w w' := by
  have HWO : Hid (∀ W, Below w.heap.size w W → Calls Tryz.prog 112 #[tv, kv] W fun e w' => ∃ v, e = .returned v ∧ WordsAre W w' v (wordsOf tr known)) :=
    fun W hW => words_any tv kv tr known W (hT.below hW) (hK.below hW) hk hne hl (by omega)
  have HNU : Hid (∀ W x, Below w.heap.size w W → Calls Tryz.prog 40 #[tv, kv, .string x] W fun e w' => e = .returned (.int .i64 (numberN tr known x : Int)) ∧ Below W.heap.size W w') :=
    fun W x hW => number_any tv kv tr known x W (hT.below hW) (hK.below hW) hk hs hl (by omega)
  have HHA : Hid (∀ W kd x, Below w.heap.size w W → Calls Tryz.prog 41 #[tv, kv, .string (Kd.bs kd), .string x] W fun e w' => e = .returned (.bool (hasB tr known kd x)) ∧ Below W.heap.size W w') :=
    fun W kd x hW => has_any tv kv tr known kd x W (hT.below hW) (hK.below hW) hk hl (by omega)
  clear hT hK
  go_enter Tryz.func64, Tryz.ntmps64
  go_wp2_with (go_at_call 112; refine (HWO.out _ (Below.refl _ _)).mono ?_; rintro e w1 ⟨v, rfl, out, hown, hb1, hsort, hmem, hlen0⟩)
  have hS1 := StrsAt.of_owns hown
  obtain ⟨p, cap, rfl, hcs⟩ := id hS1
  have hlen : out.length ≤ 100000000 := by rw [wordsOf_length] at hlen0; omega
  have hw8 : ∀ x ∈ out, x.size ≤ 8 := fun x hx => by
    have := hwl x.toList ((hmem _).1 (List.mem_map_of_mem hx))
    rw [ByteArray.toList_eq] at this
    simpa using this
  have HM : Hid (∀ x, x ∈ out.map ByteArray.toList ↔ x ∈ wordsOf tr known) := hmem
  have HSO : Hid ((out.map ByteArray.toList).Pairwise (· < ·)) := hsort
  clear hmem hsort hcs hown
  go_loopw [6, 7] (fun sv i wr => ∃ (k : Nat) (s : ByteArray), k ≤ out.length ∧ i = .int .i64 k ∧ sv = .string s ∧ Hid (s.data.toList = (out.take k).flatMap (itemLine tr known)) ∧ s.size ≤ 32 * k ∧ Below w1.heap.size w1 wr) (fun _ i _ => out.length - (intOf i).toNat)
  case atStart => exact ⟨0, _, Nat.zero_le _, rfl, rfl, by simp [Hid], by simp [ByteArray.size], Below.refl _ _⟩
  case round =>
    obtain ⟨k, s, hk', rfl, rfl, HSE, hss, hbr⟩ := hrel
    by_cases hlt : k < out.length
    · obtain ⟨p', cap', hp', hcs⟩ := hS1.below hbr
      obtain ⟨g, hg, ck⟩ := hcs k out[k] (List.getElem?_eq_getElem hlt)
      obtain ⟨rfl, -, rfl⟩ : p = p' ∧ True ∧ cap = cap' := by simpa using hp'
      subst hg
      clear hp' hcs
      have hx8 : out[k].size ≤ 8 := hw8 _ (List.getElem_mem hlt)
      have HSN : Hid ((out.take (k + 1)).flatMap (itemLine tr known) = (out.take k).flatMap (itemLine tr known) ++ itemLine tr known out[k]) := flatMap_snoc out k hlt _
      have HIL : Hid (itemLine tr known out[k] = if 0 < numberN tr known out[k] then itemW ++ out[k].data.toList ++ [32] ++ (decN (numberN tr known out[k])).data.toList ++ [10] else []) := rfl
      have HNK : Hid (∀ W, Below w.heap.size w W → Calls Tryz.prog 40 #[tv, kv, .string out[k]] W fun e w' => e = .returned (.int .i64 (numberN tr known out[k] : Int)) ∧ Below W.heap.size W w') := fun W hW => HNU.out W _ hW
      have hnl := numberN_le tr known out[k]
      have hbw : Below w.heap.size w wr := hb1.trans (hbr.mono hb1.size)
      have hd3 : (decN (numberN tr known out[k])).size ≤ 3 := decN_size 2 _ (by omega)
      generalize hnn : numberN tr known out[k] = nn at *
      clear hnn
      generalize hxx : out[k] = x at *
      clear hxx
      by_cases hpos : 0 < nn
      · go_wp2_with (go_at_call 40; refine (HNK.out _ hbw).mono ?_; rintro e w2 ⟨rfl, hb2⟩)
        have ck2 := cell_below hb2 ck
        go_quiet ((go_at_call 113; exact Calls.quiet_of_same (decimal_any _ _ (by omega))))
        go_wp2
        go_roundw
        case rel => exact ⟨k + 1, _, by omega, by go_num, rfl, by
            show _ = _
            rw [HSN.out, HIL.out, if_pos hpos, ← HSE.out]
            simp [ByteArray.data_append, itemW], by
            rw [ByteArray.size_append, ByteArray.size_append, ByteArray.size_append, ByteArray.size_append, ByteArray.size_append]
            have e1 : (ByteArray.mk #[105, 116, 101, 109, 32]).size = 5 := rfl
            have e2 : (ByteArray.mk #[32]).size = 1 := rfl
            have e3 : (ByteArray.mk #[10]).size = 1 := rfl
            omega, below_drewN (hbr.trans (hb2.mono hbr.size)) _⟩
        case measure => simp [intOf]; omega
      · go_wp2_with (go_at_call 40; refine (HNK.out _ hbw).mono ?_; rintro e w2 ⟨rfl, hb2⟩)
        go_roundw
        case rel => exact ⟨k + 1, s, by omega, by go_num, rfl, by
            show _ = _
            rw [HSN.out, HIL.out, if_neg hpos, ← HSE.out]; simp, by omega, hbr.trans (hb2.mono hbr.size)⟩
        case measure => simp [intOf]; omega
    · have hke : out.take k = out := List.take_of_length_le (by omega)
      have HS1 : Hid (s.data.toList = out.flatMap (itemLine tr known)) := by have := HSE.out; rwa [hke] at this
      clear HSE hke
      obtain ⟨wa, hwa⟩ : ∃ x, x = wr := ⟨_, rfl⟩
      subst hwa
      have hsza := hbr.size
      have hss1 : s.size ≤ 32 * out.length := by omega
      clear hss hk'
      have hSa := hS1.below hbr
      have hba : Below w.heap.size w wa := hb1.trans (hbr.mono hb1.size)
      clear hS1 hbr
      go_wp2
      go_loopw [6, 11] (fun sv i wr2 => ∃ (j : Nat) (s2 : ByteArray), j ≤ 2 ∧ i = .int .i64 j ∧ sv = .string s2 ∧ Hid (s2.data.toList = preL tr known out j) ∧ s2.size ≤ 32 * out.length + 32 * out.length * j ∧
        Below (wa.heap.size + 2) ((wa.alloc (.cells #[.string ⟨#[97, 112, 112, 108, 121]⟩, .string ⟨#[110, 111, 116, 101]⟩] 9)).alloc (.cells #[.string ⟨#[99, 111, 117, 112, 111, 110, 32]⟩, .string ⟨#[110, 111, 116, 101, 32]⟩] 9)) wr2) (fun _ i _ => 2 - (intOf i).toNat)
      case atStart => exact ⟨0, s, by omega, rfl, rfl, by show _ = _; rw [HS1.out]; simp [preL], by omega, Below.refl _ _⟩
      case round =>
        obtain ⟨j, s2, hj, rfl, rfl, HSE, hss2, hbr2⟩ := hrel
        obtain ⟨wb, hwb⟩ : ∃ x, x = wr := ⟨_, rfl⟩
        subst hwb
        have hszb : wa.heap.size + 2 ≤ wb.heap.size := by have := hbr2.size; simpa using this
        have hbb : Below w.heap.size w wb := (((hba.alloc hba.size _).alloc (by have := hba.size; simp; omega) _)).trans (hbr2.mono (by have := hba.size; omega))
        have hbab : Below wa.heap.size wa wb := ((((Below.refl _ wa).alloc (Nat.le_refl _) _).alloc (by simp) _)).trans (hbr2.mono (by omega))
        have hSb := hSa.below hbab
        by_cases hj2 : j < 2
        · obtain ⟨kd, nm, kc, nc, HPJ, hn7⟩ : ∃ (kd : Kd) (nm : ByteArray), wb.cell? ⟨wa.heap.size, j, none⟩ = some (.string kd.bs) ∧ wb.cell? ⟨wa.heap.size + 1, j, none⟩ = some (.string nm) ∧
              Hid (preL tr known out (j + 1) = preL tr known out j ++ out.flatMap (kindLine tr known kd nm.data.toList)) ∧ nm.size ≤ 7 := by
            have c0 : ∀ o, wb.cell? ⟨wa.heap.size, o, none⟩ = _ := fun o => hbr2.cell (p := ⟨wa.heap.size, o, none⟩) (by simp)
            have c1 : ∀ o, wb.cell? ⟨wa.heap.size + 1, o, none⟩ = _ := fun o => hbr2.cell (p := ⟨wa.heap.size + 1, o, none⟩) (by simp)
            rcases (show j = 0 ∨ j = 1 by omega) with rfl | rfl
            · exact ⟨.established, ⟨#[99, 111, 117, 112, 111, 110, 32]⟩, by rw [c0]; simp [Kd.bs], by rw [c1]; simp, by simp [Hid, preL, couponW], by decide⟩
            · exact ⟨.closeWait, ⟨#[110, 111, 116, 101, 32]⟩, by rw [c0]; simp [Kd.bs], by rw [c1]; simp, by simp [Hid, preL, noteW], by decide⟩
          have j0 : (0 : Int) ≤ (j : Int) := by omega
          have j1 : (j : Int) < 2 := by omega
          have hbl0 := World.block_lt_of_cell? wb _ kc
          have hbl1 := World.block_lt_of_cell? wb _ nc
          have HBB : Hid (Below (wa.heap.size + 2) ((wa.alloc (.cells #[.string ⟨#[97, 112, 112, 108, 121]⟩, .string ⟨#[110, 111, 116, 101]⟩] 9)).alloc (.cells #[.string ⟨#[99, 111, 117, 112, 111, 110, 32]⟩, .string ⟨#[110, 111, 116, 101, 32]⟩] 9)) wb) := hbr2
          clear hbr2
          go_wp2
          go_loopw [6, 12] (fun sv i wr3 => ∃ (k : Nat) (s3 : ByteArray), k ≤ out.length ∧ i = .int .i64 k ∧ sv = .string s3 ∧ Hid (s3.data.toList = preL tr known out j ++ (out.take k).flatMap (kindLine tr known kd nm.data.toList)) ∧ s3.size ≤ 32 * out.length + 32 * out.length * j + 32 * k ∧
            Below wb.heap.size wb wr3) (fun _ i _ => out.length - (intOf i).toNat)
          case atStart => exact ⟨0, s2, by omega, rfl, rfl, by show _ = _; rw [HSE.out]; simp, by omega, Below.refl _ _⟩
          case round =>
            obtain ⟨k, s3, hk', rfl, rfl, HS3, hss3, hbr3⟩ := hrel
            by_cases hlt : k < out.length
            · obtain ⟨p', cap', hp', hcs⟩ := hSb.below hbr3
              obtain ⟨g, hg, ck⟩ := hcs k out[k] (List.getElem?_eq_getElem hlt)
              obtain ⟨rfl, -, rfl⟩ : p = p' ∧ True ∧ cap = cap' := by simpa using hp'
              subst hg
              clear hp' hcs
              have kc3 := cell_below hbr3 kc
              have nc3 := cell_below hbr3 nc
              have k0 : (0 : Int) ≤ (k : Int) := by omega
              have k1 : (k : Int) < (out.length : Int) := by omega
              have hx8 : out[k].size ≤ 8 := hw8 _ (List.getElem_mem hlt)
              have HSN : Hid ((out.take (k + 1)).flatMap (kindLine tr known kd nm.data.toList) = (out.take k).flatMap (kindLine tr known kd nm.data.toList) ++ kindLine tr known kd nm.data.toList out[k]) := flatMap_snoc out k hlt _
              have HIL : Hid (kindLine tr known kd nm.data.toList out[k] = if hasB tr known kd out[k] = true then nm.data.toList ++ out[k].data.toList ++ [10] else []) := rfl
              have HHK : Hid (∀ W, Below w.heap.size w W → Calls Tryz.prog 41 #[tv, kv, .string kd.bs, .string out[k]] W fun e w' => e = .returned (.bool (hasB tr known kd out[k])) ∧ Below W.heap.size W w') := fun W hW => HHA.out W kd _ hW
              have hbw3 : Below w.heap.size w wr := hbb.trans (hbr3.mono hbb.size)
              generalize hnn : hasB tr known kd out[k] = hb at *
              clear hnn
              generalize hxx : out[k] = x at *
              clear hxx
              generalize hkb : kd.bs = kb at *
              clear hkb
              go_wp2
              go_region_held3 (fun w' => w'.cell? ⟨wa.heap.size, j, none⟩ = some (.string kb) ∧ w'.cell? ⟨g, k, none⟩ = some (.string x) ∧ w'.cell? ⟨wa.heap.size + 1, j, none⟩ = some (.string nm) ∧ Below wr.heap.size wr w') (first | exact ⟨by simpa using kc3, by simpa using ck, by simpa using nc3, (Below.refl _ _).drew⟩ | exact ⟨cell_below hb2 (by simpa using kc3), cell_below hb2 (by simpa using ck), cell_below hb2 (by simpa using nc3), (Below.refl _ _).drew.trans (hb2.mono (by simp))⟩)
                (first | (go_at_call 41; refine (HHK.out _ hbw3.drew).mono ?_; rintro e w2 ⟨rfl, hb2⟩))
              have hbw2 : Below wb.heap.size wb w2 := hbr3.drew.trans (hb2.mono (by have := hbr3.size; simpa using this))
              have kc2 : w2.cell? ⟨wa.heap.size, j, none⟩ = some (.string kb) := cell_below hb2 (by simpa using kc3)
              have ck2 : w2.cell? ⟨g, k, none⟩ = some (.string x) := cell_below hb2 (by simpa using ck)
              have nc2 : w2.cell? ⟨wa.heap.size + 1, j, none⟩ = some (.string nm) := cell_below hb2 (by simpa using nc3)
              have hs9 : 32 * out.length * j ≤ 64 * out.length := by rcases (show j = 0 ∨ j = 1 by omega) with rfl | rfl <;> omega
              cases hb
              · go_wp2
                go_roundw
                case rel => exact ⟨k + 1, s3, by omega, by go_num, rfl, by
                    show _ = _
                    rw [HSN.out, HIL.out, HS3.out]; simp, by omega, hbw2⟩
                case measure => simp [intOf]; omega
              · go_wp2
                go_quiet ((fail))
                go_wp2
                go_roundw
                case rel => exact ⟨k + 1, _, by omega, by go_num, rfl, by
                    show _ = _
                    rw [HSN.out, HIL.out, ← List.append_assoc, ← HS3.out]
                    simp [ByteArray.data_append], by
                    rw [ByteArray.size_append, ByteArray.size_append, ByteArray.size_append]
                    have e3 : (ByteArray.mk #[10]).size = 1 := rfl
                    omega, below_drewN hbw2 _⟩
                case measure => simp [intOf]; omega
            · have hke : out.take k = out := List.take_of_length_le (by omega)
              have HS4 : Hid (s3.data.toList = preL tr known out (j + 1)) := by have := HS3.out; rw [hke, ← HPJ.out] at this; exact this
              clear HS3 hke
              have hs5 : s3.size ≤ 32 * out.length + 32 * out.length * (j + 1) := by rw [Nat.mul_add]; omega
              clear hss3
              go_wp2
              go_roundw
              case rel => exact ⟨j + 1, s3, by omega, by go_num, rfl, HS4.out, hs5, HBB.out.trans (hbr3.mono hszb)⟩
              case measure => simp [intOf]; omega
        · have HF : Hid (s2.data.toList = viewL tr known out) := by
            have := HSE.out
            obtain rfl : j = 2 := by omega
            simpa [Hid, preL, viewL] using this
          go_wp2
          go_ret
          exact ⟨s2, rfl, ⟨out, HSO.out, HM.out, HF.out⟩, hbb⟩
end Go.Proofs.YtckmppkdpnhodaaGreatDoor

namespace Go.Proofs.YtckmppkdpnhodaaGreatDoor
set_option linter.unusedVariables false
set_option linter.unusedSimpArgs false
open Go.RowKit Go.Proofs

variable {R : World → Nat → Nat → Nat → List Cm → (Nat → Prop) → Prop}

theorem Mem.below (hR : Local R) {w w' : World} {c : Nat → Nat} {L : Lay} {st : St} (h : Mem R w c L st) (hb : Below w.heap.size w w') : Mem R w' c L st := by
  have ow : ∀ {e : TypeId} {size : Nat} {v : Value} {n : Nat} {xs : List Value}, w.ownsRow 0 e size v n xs → w'.ownsRow 0 e size v n xs := fun ho => (Upd.of_below (S := []) hb).owns ho (by simp)
  have bl : ∀ {b : Nat} {o : Obj}, w.heap[b]? = some o → w'.heap[b]? = some o := fun {b o} ho => (hb.block b (Array.getElem?_eq_some_iff.1 ho).1).trans ho
  exact
    { npos := h.npos
      wbk := bl h.wbk
      wbc := h.wbc
      lbc := h.lbc
      lcell := fun i hi => cell_below hb (h.lcell i hi)
      llen := h.llen
      trow := ow h.trow
      tvc := h.tvc
      blen := h.blen
      bef := fun i hi hi' => by
        obtain ⟨a1, a2, a3⟩ := h.bef i hi hi'
        exact ⟨a1.below hb, fun b hb' => ⟨(a2 b hb').1, Nat.lt_of_lt_of_le (a2 b hb').2 hb.size⟩, a3⟩
      kbk := bl h.kbk
      kbc := h.kbc
      xlen := h.xlen
      xrow := fun i hi => by
        obtain ⟨u, a1, a2, a3⟩ := h.xrow i hi
        exact ⟨u, a1, ow a2, a3⟩
      slen := h.slen
      srow := ow h.srow
      svc := h.svc
      fbk := bl h.fbk
      fbc := h.fbc
      flen := h.flen
      fcell := h.fcell
      orow := ow h.orow
      ovc := h.ovc
      marks := fun i hi hi' => by
        obtain ⟨a1, a2⟩ := h.marks i hi hi'
        exact ⟨a1.below hb, fun b hb' => ⟨(a2 b hb').1, Nat.lt_of_lt_of_le (a2 b hb').2 hb.size⟩⟩
      krow := ow h.krow
      kvc := h.kvc
      logn := h.logn
      reps := fun i hi hi' => hR.same (h.reps i hi hi') hb.size fun b hF hl => ⟨hb.block b hl, hF⟩ }

theorem Stp.refl (w : World) (c : Nat → Nat) : Stp w c w c := ⟨rfl, rfl, rfl, Nat.le_refl _, fun _ _ => rfl, fun _ _ _ => rfl⟩
theorem Stp.trans {a b d : World} {c1 c2 c3 : Nat → Nat} (h : Stp a c1 b c2) (k : Stp b c2 d c3) : Stp a c1 d c3 :=
  ⟨k.os.trans h.os, k.tape.trans h.tape, k.output.trans h.output, Nat.le_trans h.size k.size, fun i hi => (k.col i (Nat.lt_of_lt_of_le hi h.size)).trans (h.col i hi),
   fun i hi h0 => (k.zero i (Nat.lt_of_lt_of_le hi h.size) ((h.col i hi).trans h0)).trans (h.zero i hi h0)⟩
theorem Stp.below {a b : World} {c : Nat → Nat} (h : Below a.heap.size a b) : Stp a c b c := ⟨h.os, h.tape, h.output, h.size, fun _ _ => rfl, fun i hi _ => h.block i hi⟩

/-- The world's own cells. -/
theorem Mem.cell {w : World} {c : Nat → Nat} {L : Lay} {st : St} (h : Mem R w c L st) (o : Nat) : w.cell? ⟨L.wb, o, none⟩ = (L.C st.n)[o]? := cell_of_heap h.wbk o

/-- Two lists in order with the same members are one. -/
theorem sorted_unique : ∀ (a b : List Wd), a.Pairwise (· < ·) → b.Pairwise (· < ·) → (∀ x, x ∈ a ↔ x ∈ b) → a = b
  | [], [], _, _, _ => rfl
  | [], y :: b, _, _, h => by have := (h y).2 (List.mem_cons_self ..); simp at this
  | x :: a, [], _, _, h => by have := (h x).1 (List.mem_cons_self ..); simp at this
  | x :: a, y :: b, ha, hb, h => by
    obtain ⟨ha1, ha2⟩ := List.pairwise_cons.1 ha
    obtain ⟨hb1, hb2⟩ := List.pairwise_cons.1 hb
    have exy : x = y := by
      rcases List.mem_cons.1 ((h x).1 (List.mem_cons_self ..)) with e | e
      · exact e
      · rcases List.mem_cons.1 ((h y).2 (List.mem_cons_self ..)) with e' | e'
        · exact e'.symm
        · exact absurd (wd_trans (hb1 x e) (ha1 y e')) (wd_irrefl _)
    subst exy
    congr 1
    refine sorted_unique a b ha2 hb2 fun z => ⟨fun hz => ?_, fun hz => ?_⟩
    · rcases List.mem_cons.1 ((h z).1 (List.mem_cons_of_mem _ hz)) with e | e
      · subst e; exact absurd (ha1 z hz) (wd_irrefl _)
      · exact e
    · rcases List.mem_cons.1 ((h z).2 (List.mem_cons_of_mem _ hz)) with e | e
      · subst e; exact absurd (hb1 z hz) (wd_irrefl _)
      · exact e

theorem map_toList_inj : ∀ (a b : List ByteArray), a.map ByteArray.toList = b.map ByteArray.toList → a = b
  | [], [], _ => rfl
  | [], _ :: _, h => by simp at h
  | _ :: _, [], h => by simp at h
  | x :: a, y :: b, h => by
    simp only [List.map_cons, List.cons.injEq] at h
    rw [toList_inj h.1, map_toList_inj a b h.2]

theorem IsView.unique {tr : List Dn} {known : List Nat} {s t : ByteArray} (hs : IsView tr known s) (ht : IsView tr known t) : s = t := by
  obtain ⟨a, a1, a2, a3⟩ := hs
  obtain ⟨b, b1, b2, b3⟩ := ht
  have e : a = b := map_toList_inj a b (sorted_unique _ _ a1 b1 fun x => (a2 x).trans (b2 x).symm)
  subst e
  exact ByteArray.ext (Array.toList_inj.1 (a3.trans b3.symm))

end Go.Proofs.YtckmppkdpnhodaaGreatDoor

namespace Go.Proofs.YtckmppkdpnhodaaGreatDoor
set_option linter.unusedVariables false
set_option linter.unusedSimpArgs false
open Go.RowKit Go.Proofs

variable {R : World → Nat → Nat → Nat → List Cm → (Nat → Prop) → Prop}

attribute [local go_sem ↓] Go.wp_at_zero Go.wp_at_succ

/-- What asks does, as its callers want it. -/
def AskDoes (R : World → Nat → Nat → Nat → List Cm → (Nat → Prop) → Prop) (w : World) (c : Nat → Nat) (L : Lay) (st : St) (k : Nat) (ids : List Nat) : Prop :=
  Calls Tryz.prog 35 #[.pointer (some ⟨L.wb, 0, none⟩), .int .i64 (k : Int)] w fun e w' => e = .returned (.bool true) ∧ ∃ c' L', L'.wb = L.wb ∧ Mem R w' c' L' (st.asked k ids) ∧ Stp w c w' c'

/-- What a caller reads of the world. -/
theorem Mem.reads {w : World} {c : Nat → Nat} {L : Lay} {st : St} (h : Mem R w c L st) {k : Nat} (hk : k < st.n) :
    ∃ lb capl kb capk u, w.cell? ⟨L.wb, 1, none⟩ = some (.slice (some ⟨lb, 0, none⟩) st.n capl) ∧ w.cell? ⟨L.wb, 2, none⟩ = some L.tv ∧ w.cell? ⟨L.wb, 3, none⟩ = some (.slice (some ⟨kb, 0, none⟩) st.n capk) ∧
      w.cell? ⟨lb, k, none⟩ = some (.pointer (some ⟨st.rbs[k]'(by rw [h.llen]; exact hk), 0, none⟩)) ∧ w.cell? ⟨kb, k, none⟩ = some u ∧ NatsAt w u (st.xss[k]'(by rw [h.xlen]; exact hk)) := by
  obtain ⟨u, hu, hrow, -⟩ := h.xrow k (by rw [h.xlen]; exact hk)
  exact ⟨L.lb, L.capl, L.kb, L.capk, u, by rw [h.cell]; simp [Lay.C], by rw [h.cell]; simp [Lay.C], by rw [h.cell]; simp [Lay.C], h.lcell k _, by rw [cell_of_heap h.kbk]; exact hu, NatsAt.of_owns hrow⟩

set_option maxRecDepth 100000 in
set_option maxHeartbeats 2000000 in
theorem views_mem (hR : Local R) {w : World} {c : Nat → Nat} {L : Lay} {st : St} (h : Mem R w c L st) {k : Nat} (hk : k < st.n) (ids : List Nat) (hA : AskDoes R w c L st k ids)
    (hids : ∀ y ∈ ids, y < st.tr.length) (hs : Small st.tr) (hne : ∀ x ∈ wordsOf st.tr ids, x ≠ []) (hwl : ∀ x ∈ wordsOf st.tr ids, x.length ≤ 8) (hl : st.tr.length ≤ maxLen) (hil : ids.length ≤ 100000000)
    (hV : ∀ w' c' L', Mem R w' c' L' (st.asked k ids) → Stp w c w' c' → Calls Tryz.prog 23 #[.pointer (some ⟨st.rbs[k]'(by rw [h.llen]; exact hk), 0, none⟩)] w' fun e w'' => ∃ s, e = .returned (.string s) ∧ IsView st.tr ids s ∧ Below w'.heap.size w' w'') :
    Calls Tryz.prog 33 #[.pointer (some ⟨L.wb, 0, none⟩), .int .i64 (k : Int)] w fun e w' => e = .returned (.bool true) ∧ ∃ c' L', L'.wb = L.wb ∧ Mem R w' c' L' (st.asked k ids) ∧ Stp w c w' c' := by
  have HA : Hid (AskDoes R w c L st k ids) := hA
  have HV : Hid (∀ w' c' L', Mem R w' c' L' (st.asked k ids) → Stp w c w' c' → Calls Tryz.prog 23 #[.pointer (some ⟨st.rbs[k]'(by rw [h.llen]; exact hk), 0, none⟩)] w' fun e w'' => ∃ s, e = .returned (.string s) ∧ IsView st.tr ids s ∧ Below w'.heap.size w' w'') := hV
  have hkx : k < st.xss.length := by rw [h.xlen]; exact hk
  have hx : (st.asked k ids).xss[k]'(by simp [St.asked]; exact hkx) = ids := by simp [St.asked]
  have HRV : Hid (∀ W tv u, TraceAt W tv st.tr → NatsAt W u ids → Calls Tryz.prog 64 #[tv, u] W fun e w' => ∃ s, e = .returned (.string s) ∧ IsView st.tr ids s ∧ Below W.heap.size W w') :=
    fun W tv u hT hK => refview_any tv u st.tr ids W hT hK hids hs hne hwl hl hil
  have hk5 : st.n ≤ 5 := h.npos.2
  generalize hrb : st.rbs[k]'(by rw [h.llen]; exact hk) = rb at *
  have HRB : Hid (st.rbs[k]'(by rw [h.llen]; exact hk) = rb) := hrb
  have HX : Hid ((st.asked k ids).xss[k]'(by simp [St.asked]; exact hkx) = ids) := hx
  clear hA hV hx hrb hids hs hne hwl
  generalize hwb : L.wb = wb at *
  have k0 : (0 : Int) ≤ (k : Int) := by omega
  have k1 : (k : Int) < (st.n : Int) := by omega
  unfold AskDoes at HA
  rw [hwb] at HA
  have HWB : Hid (L.wb = wb) := hwb
  clear hwb
  go_enter Tryz.func33, Tryz.ntmps33
  go_wp2_with (first
    | (go_at_call 35; refine HA.out.mono ?_; rintro e w1 ⟨rfl, c1, L1, hL1, hm1, hst1⟩; obtain ⟨lb, capl, kb, capk, u, r1, r2, r3, rl, rk, rn⟩ := hm1.reads hk; rw [hL1] at r1 r2 r3; replace rl : w1.cell? ⟨lb, k, none⟩ = some (.pointer (some ⟨rb, 0, none⟩)) := rl.trans (by rw [← HRB.out]; rfl))
    | (go_at_call 23; refine (HV.out _ c1 L1 hm1 hst1).mono ?_; rintro e w2 ⟨s, rfl, hsv, hb2⟩))
  have hm2 := hm1.below hR hb2
  have b2 := cell_below hb2 r2
  have b3 := cell_below hb2 r3
  have bk := cell_below hb2 rk
  have hT2 : TraceAt w2.drew L1.tv st.tr := (hm2.trace.at).below ((Below.refl _ w2).drew)
  have hN2 : NatsAt w2.drew u ids := by
    have e := HX.out
    have := rn.below hb2
    rw [e] at this
    exact this.below ((Below.refl _ w2).drew)
  have HRW : Hid (Calls Tryz.prog 64 #[L1.tv, u] w2.drew fun e w' => ∃ s, e = .returned (.string s) ∧ IsView st.tr ids s ∧ Below w2.drew.heap.size w2.drew w') := HRV.out _ _ _ hT2 hN2
  have HM2 : Hid (Mem R w2 c1 L1 (st.asked k ids)) := hm2
  have HSV : Hid (IsView st.tr ids s) := hsv
  have HST : Hid (Stp w c w1 c1) := hst1
  have HL1 : Hid (L1.wb = wb) := hL1
  clear hT2 hN2 hm1 hm2 hsv hst1 hL1 HRV HA HV r1 r2 r3 rl rk rn
  generalize L1.tv = tv at *
  have hsn : (st.asked k ids).n = st.n := rfl
  rw [hsn] at *
  clear hsn
  go_region_held3 (fun w' => w'.cell? ⟨wb, 2, none⟩ = some tv ∧ w'.cell? ⟨wb, 3, none⟩ = some (.slice (some ⟨kb, 0, none⟩) st.n capk) ∧ w'.cell? ⟨kb, k, none⟩ = some u)
    (first | exact ⟨b2, b3, bk⟩ | exact ⟨cell_below hb3 b2, cell_below hb3 b3, cell_below hb3 bk⟩)
    (first | (go_at_call 64; refine HRW.out.mono ?_; rintro e w3 ⟨t, rfl, htv, hb3⟩))
  obtain rfl : s = t := HSV.out.unique htv
  go_wp2
  go_ret
  exact ⟨rfl, c1, L1, HL1.out, HM2.out.below hR (((Below.refl _ w2).drew).trans hb3), HST.out.trans ((Stp.below hb2).trans (Stp.below (((Below.refl _ w2).drew).trans hb3)))⟩
end Go.Proofs.YtckmppkdpnhodaaGreatDoor
