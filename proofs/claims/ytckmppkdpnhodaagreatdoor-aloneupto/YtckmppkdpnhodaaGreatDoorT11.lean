/-
  Contracts of cartelref.Number and Has. Contract of cartelref.words.
-/
import Derived.Test.YtckmppkdpnhodaaGreatDoorT10
import Derived.Test.YtckmppkdpnhodaaGreatDoorT09
import Derived.Deep.AppendLies
namespace Go.Proofs.YtckmppkdpnhodaaGreatDoor
set_option linter.unusedVariables false
set_option linter.unusedSimpArgs false
open Go.RowKit

/-- What a round at the place k of the known ones wants: the command there, in whatever world lies above. -/
theorem at_known {w : World} {p q : Option Addr} {cap capq : Nat} {tr : List Dn} {known : List Nat} (hT : TraceAt w (.slice p tr.length cap) tr) (hK : NatsAt w (.slice q known.length capq) known)
    (hk : ∀ y ∈ known, y < tr.length) {k : Nat} (hlt : k < known.length) :
    ∃ g gq, p = some ⟨g, 0, none⟩ ∧ q = some ⟨gq, 0, none⟩ ∧ known[k] < tr.length ∧ g < w.heap.size ∧ gq < w.heap.size ∧ w.cell? ⟨gq, k, none⟩ = some (.int .i64 (known[k] : Int)) ∧
      w.cell? ⟨g, known[k] * 7 + 3, none⟩ = some (.string (cmAt tr known[k]).k.bs) ∧ w.cell? ⟨g, known[k] * 7 + 4, none⟩ = some (.string (cmAt tr known[k]).word) ∧
      w.cell? ⟨g, known[k] * 7 + 5, none⟩ = some (.int .i64 ((cmAt tr known[k]).count : Int)) := by
  obtain ⟨p', cap', hp', hc'⟩ := hT
  have hyl : known[k] < tr.length := hk _ (List.getElem_mem hlt)
  obtain ⟨g', bv', hg', -, -, -, d3, d4, d5, -, -, -⟩ := hc' known[k] tr[known[k]] (List.getElem?_eq_getElem hyl)
  obtain ⟨q', capq', hq', hcq'⟩ := hK
  obtain ⟨gq', hgq', ck⟩ := hcq' k known[k] (List.getElem?_eq_getElem hlt)
  obtain ⟨rfl, -, rfl⟩ : p = p' ∧ True ∧ cap = cap' := by simpa using hp'
  obtain ⟨rfl, -, rfl⟩ : q = q' ∧ True ∧ capq = capq' := by simpa using hq'
  have hcy : cmAt tr known[k] = tr[known[k]].c := cmAt_of (List.getElem?_eq_getElem hyl)
  rw [← hcy] at d3 d4 d5
  exact ⟨g', gq', hg', hgq', hyl, World.block_lt_of_cell? w _ d3, World.block_lt_of_cell? w _ ck, ck, d3, d4, d5⟩

set_option maxHeartbeats 4000000 in
theorem number_any (tv kv : Value) (tr : List Dn) (known : List Nat) (word : ByteArray) (w : World) (hT : TraceAt w tv tr) (hK : NatsAt w kv known)
    (hk : ∀ y ∈ known, y < tr.length) (hs : Small tr) (hl : tr.length ≤ maxLen) (hkl : known.length ≤ 1000000000000) :
    Calls Tryz.prog 40 #[tv, kv, .string word] w fun e w' => e = .returned (.int .i64 (numberN tr known word : Int)) ∧ Below w.heap.size w w' := by
  obtain ⟨p, cap, hp, hc⟩ := id hT
  obtain ⟨q, capq, hq, hcq⟩ := id hK
  subst hp hq
  clear hc hcq
  have HL : Hid (tr.length ≤ maxLen) := hl
  clear hl
  go_enter Tryz.func40, Tryz.ntmps40
  go_wp2
  go_loopw [7, 8] (fun n i wr => ∃ k : Nat, k ≤ known.length ∧ i = .int .i64 k ∧ n = .int .i64 ((sumOf tr known word (known.take k) : Nat) : Int) ∧ Below w.heap.size w wr) (fun _ i _ => known.length - (intOf i).toNat)
  case atStart => exact ⟨0, Nat.zero_le _, rfl, by simp [sumOf], Below.refl _ _⟩
  case round =>
    obtain ⟨k, hk', rfl, rfl, hbw⟩ := hrel
    have hTr := hT.below hbw
    have hKr := hK.below hbw
    have hsz := hbw.size
    by_cases hlt : k < known.length
    · obtain ⟨g, gq, rfl, rfl, hyl, hg, hgq, ck, d3, d4, d5⟩ := at_known hTr hKr hk hlt
      have hsum := sumOf_le hs known word (known.take k)
      have hsl : (known.take k).length ≤ k := List.length_take_le _ _
      have HSN : Hid (sumOf tr known word (known.take (k + 1)) = sumOf tr known word (known.take k) + adds tr known word known[k]) := by
        rw [take_snoc' known k hlt]; exact sumOf_snoc tr known word _ _
      have hcl : (cmAt tr known[k]).count ≤ 99 := by
        have := hs tr[known[k]] (List.getElem_mem hyl)
        rwa [cmAt_of (List.getElem?_eq_getElem hyl)]
      have HH : Hid (adds tr known word known[k] = if (cmAt tr known[k]).k = .closed ∧ (cmAt tr known[k]).word = word ∧ staysB tr known known[k] = true then (cmAt tr known[k]).count else 0) := rfl
      have HA : Hid (∀ W, Below wr.heap.size wr W → Calls Tryz.prog 77 #[.slice (some ⟨g, 0, none⟩) tr.length cap, .slice (some ⟨gq, 0, none⟩) known.length capq, .int .i64 (known[k] : Int)] W fun e w' => e = .returned (.bool (staysB tr known known[k])) ∧ Below W.heap.size W w') :=
        fun W hW => stays_any _ _ tr known known[k] W (hTr.below hW) (hKr.below hW) hk hyl HL.out (by simp only [maxLen]; omega)
      clear hT hK hTr hKr
      generalize staysB tr known known[k] = ib at *
      generalize cmAt tr known[k] = Y at *
      generalize adds tr known word known[k] = ad at *
      generalize sumOf tr known word (known.take k) = sm at *
      generalize hE : sumOf tr known word (known.take (k + 1)) = sm' at *
      have HE : Hid (sumOf tr known word (known.take (k + 1)) = sm') := hE
      clear hE
      generalize known[k] = y at *
      obtain ⟨ky, wy, cy⟩ := Y
      have hsm : sm ≤ 99000000000000 := by omega
      simp only at hcl d3 d4 d5
      by_cases hky : ky = .closed
      · subst hky
        simp only [Kd.bs] at d3
        by_cases hw : wy = word
        · subst hw
          cases ib
          · have hz : Hid (sm' = sm) := by have := HSN.out; have := HH.out; simp at this; simp only [Hid]; omega
            go_wp2_with (go_at_call 77; refine (HA.out _ (by first | exact Below.refl _ _ | exact (Below.refl _ _).alloc (Nat.le_refl _) _)).mono ?_; rintro e w' ⟨rfl, hbs⟩)
            go_roundw
            case rel => exact ⟨k + 1, by omega, by go_num, by rw [HE.out, hz.out], (hbw.alloc hsz _).trans (hbs.mono (by simp; omega))⟩
            case measure => simp [intOf]; omega
          · have hz : Hid (sm' = sm + cy) := by have := HSN.out; have := HH.out; simp at this; simp only [Hid]; omega
            go_wp2_with (go_at_call 77; refine (HA.out _ (by first | exact Below.refl _ _ | exact (Below.refl _ _).alloc (Nat.le_refl _) _)).mono ?_; rintro e w' ⟨rfl, hbs⟩; obtain ⟨hcb, hfb⟩ := bcell hbs)
            go_roundw
            case rel => exact ⟨k + 1, by omega, by go_num, by rw [HE.out, hz.out]; go_num, (hbw.alloc hsz _).trans (hbs.mono (by simp; omega))⟩
            case measure => simp [intOf]; omega
        · have hz : Hid (sm' = sm) := by have := HSN.out; have := HH.out; simp [hw] at this; simp only [Hid]; omega
          have hw' := bs_ne hw
          clear hw
          go_wp2
          go_roundw
          case rel => exact ⟨k + 1, by omega, by go_num, by rw [HE.out, hz.out], hbw.alloc hsz _⟩
          case measure => simp [intOf]; omega
      · have hz : Hid (sm' = sm) := by have := HSN.out; have := HH.out; simp [hky] at this; simp only [Hid]; omega
        have hne := ne_add hky
        clear hky
        generalize ky.bs = yv at *
        go_wp2
        go_roundw
        case rel => exact ⟨k + 1, by omega, by go_num, by rw [HE.out, hz.out], hbw.alloc hsz _⟩
        case measure => simp [intOf]; omega
    · have he : known.take k = known := List.take_of_length_le (by omega)
      have HNN : Hid (numberN tr known word = min 999 (sumOf tr known word (known.take k))) := by rw [he]; rfl
      clear he
      have hsum := sumOf_le hs known word (known.take k)
      have hsl : (known.take k).length ≤ k := List.length_take_le _ _
      generalize sumOf tr known word (known.take k) = sm at *
      have hsm : sm ≤ 99000000000000 := by omega
      by_cases hg : 999 < sm
      · go_wp2
        go_ret
        exact ⟨ret_int (by rw [HNN.out]; omega), hbw⟩
      · go_wp2
        go_ret
        exact ⟨ret_int (by rw [HNN.out]; omega), hbw⟩

set_option maxHeartbeats 4000000 in
theorem has_any (tv kv : Value) (tr : List Dn) (known : List Nat) (kd : Kd) (word : ByteArray) (w : World) (hT : TraceAt w tv tr) (hK : NatsAt w kv known)
    (hk : ∀ y ∈ known, y < tr.length) (hl : tr.length ≤ maxLen) (hkl : known.length ≤ 1000000000000) :
    Calls Tryz.prog 41 #[tv, kv, .string kd.bs, .string word] w fun e w' => e = .returned (.bool (hasB tr known kd word)) ∧ Below w.heap.size w w' := by
  obtain ⟨p, cap, hp, hc⟩ := id hT
  obtain ⟨q, capq, hq, hcq⟩ := id hK
  subst hp hq
  clear hc hcq
  have HL : Hid (tr.length ≤ maxLen) := hl
  clear hl
  generalize hkb : kd.bs = kb
  have HKB : Hid (kd.bs = kb) := hkb
  clear hkb
  go_enter Tryz.func41, Tryz.ntmps41
  go_wp2
  go_loopw [9] (fun i wr => ∃ k : Nat, k ≤ known.length ∧ i = .int .i64 k ∧ Hid ((known.take k).any (isThere tr known kd word) = false) ∧ Below w.heap.size w wr) (fun i _ => known.length - (intOf i).toNat)
  case atStart => exact ⟨0, Nat.zero_le _, rfl, by simp [Hid], Below.refl _ _⟩
  case round =>
    obtain ⟨k, hk', rfl, HS, hbw⟩ := hrel
    have hTr := hT.below hbw
    have hKr := hK.below hbw
    have hsz := hbw.size
    by_cases hlt : k < known.length
    · obtain ⟨g, gq, rfl, rfl, hyl, hg, hgq, ck, d3, d4, d5⟩ := at_known hTr hKr hk hlt
      have hmem : known[k] ∈ known := List.getElem_mem hlt
      have HSN : Hid ((known.take (k + 1)).any (isThere tr known kd word) = ((known.take k).any (isThere tr known kd word) || isThere tr known kd word known[k])) := by
        show _ = _; rw [take_snoc' known k hlt, List.any_append]; simp
      have HH : Hid (isThere tr known kd word known[k] = (decide ((cmAt tr known[k]).k = kd) && decide ((cmAt tr known[k]).word = word) && staysB tr known known[k])) := rfl
      have HA : Hid (∀ W, Below wr.heap.size wr W → Calls Tryz.prog 77 #[.slice (some ⟨g, 0, none⟩) tr.length cap, .slice (some ⟨gq, 0, none⟩) known.length capq, .int .i64 (known[k] : Int)] W fun e w' => e = .returned (.bool (staysB tr known known[k])) ∧ Below W.heap.size W w') :=
        fun W hW => stays_any _ _ tr known known[k] W (hTr.below hW) (hKr.below hW) hk hyl HL.out (by simp only [maxLen]; omega)
      clear hT hK hTr hKr
      generalize staysB tr known known[k] = ib at *
      generalize cmAt tr known[k] = Y at *
      generalize known[k] = y at *
      obtain ⟨ky, wy, cy⟩ := Y
      simp only at d3 d4 d5
      by_cases hky : ky = kd
      · rw [hky, HKB.out] at d3
        by_cases hw : wy = word
        · subst hw
          cases ib
          · have hz : Hid (isThere tr known kd wy y = false) := by have := HH.out; simpa [Hid] using this
            go_wp2_with (go_at_call 77; refine (HA.out _ (by first | exact Below.refl _ _ | exact (Below.refl _ _).alloc (Nat.le_refl _) _)).mono ?_; rintro e w' ⟨rfl, hbs⟩)
            go_roundw
            case rel => exact ⟨k + 1, by omega, by go_num, by show _ = false; rw [HSN.out, HS.out, hz.out]; rfl, (hbw.alloc hsz _).trans (hbs.mono (by simp; omega))⟩
            case measure => simp [intOf]; omega
          · have hz : Hid (isThere tr known kd wy y = true) := by have := HH.out; simpa [Hid, hky] using this
            go_wp2_with (go_at_call 77; refine (HA.out _ (by first | exact Below.refl _ _ | exact (Below.refl _ _).alloc (Nat.le_refl _) _)).mono ?_; rintro e w' ⟨rfl, hbs⟩; obtain ⟨hcb, hfb⟩ := bcell hbs)
            go_ret
            exact ⟨ret_bool (hasB_true hmem hz.out).symm, (hbw.alloc hsz _).trans (hbs.mono (by simp; omega))⟩
        · have hz : Hid (isThere tr known kd word y = false) := by have := HH.out; simpa [Hid, hw] using this
          have hw' := bs_ne hw
          clear hw
          go_wp2
          go_roundw
          case rel => exact ⟨k + 1, by omega, by go_num, by show _ = false; rw [HSN.out, HS.out, hz.out]; rfl, hbw.alloc hsz _⟩
          case measure => simp [intOf]; omega
      · have hz : Hid (isThere tr known kd word y = false) := by have := HH.out; simpa [Hid, hky] using this
        have hne : (ky.bs.toList == kb.toList) = false := by rw [← HKB.out]; exact bs_ne fun e => hky (Kd.bs_inj e)
        clear hky
        generalize ky.bs = yv at *
        go_wp2
        go_roundw
        case rel => exact ⟨k + 1, by omega, by go_num, by show _ = false; rw [HSN.out, HS.out, hz.out]; rfl, hbw.alloc hsz _⟩
        case measure => simp [intOf]; omega
    · have he : known.take k = known := List.take_of_length_le (by omega)
      have HNN : Hid (hasB tr known kd word = false) := by have := HS.out; rw [he] at this; exact this
      clear he
      go_wp2
      go_ret
      exact ⟨ret_bool HNN.out.symm, hbw⟩

end Go.Proofs.YtckmppkdpnhodaaGreatDoor

namespace Go.Proofs.YtckmppkdpnhodaaGreatDoor
set_option linter.unusedVariables false
set_option linter.unusedSimpArgs false
open Go.RowKit

/-- The words of the known ones. -/
def wordsOf (tr : List Dn) (known : List Nat) : List Wd := known.map fun y => (cmAt tr y).word.toList

theorem wordsOf_length (tr : List Dn) (known : List Nat) : (wordsOf tr known).length = known.length := by simp [wordsOf]

theorem wordsOf_snoc (tr : List Dn) (known : List Nat) (k : Nat) (h : k < known.length) : wordsOf tr (known.take (k + 1)) = wordsOf tr (known.take k) ++ [(cmAt tr known[k]).word.toList] := by
  unfold wordsOf; rw [take_snoc' known k h, List.map_append]; rfl

theorem Tryz.info_string : (Tryz.prog.info? 9).map (fun i => (i.zero, i.size, i.bytes)) = some (some (.string ByteArray.empty), 1, 16) := by kernel_rfl

theorem toList_ne {b : ByteArray} (h : b.toList = []) : b = ByteArray.empty := toList_inj (by rw [h]; simp [ByteArray.toList_eq])

/-- A new slice of strings: these words, in order, each once. -/
def WordsAre (w w' : World) (v : Value) (ws : List Wd) : Prop :=
  ∃ out : List ByteArray, w'.ownsRow w.heap.size 9 1 v out.length (out.map Value.string) ∧ Below w.heap.size w w' ∧ (out.map ByteArray.toList).Pairwise (· < ·) ∧ (∀ x, x ∈ out.map ByteArray.toList ↔ x ∈ ws) ∧ out.length ≤ ws.length

set_option maxHeartbeats 2000000 in
theorem words_any (tv kv : Value) (tr : List Dn) (known : List Nat) (w : World) (hT : TraceAt w tv tr) (hK : NatsAt w kv known)
    (hk : ∀ y ∈ known, y < tr.length) (hne : ∀ x ∈ wordsOf tr known, x ≠ []) (hl : tr.length ≤ maxLen) (hkl : known.length ≤ 100000000000) :
    Calls Tryz.prog 112 #[tv, kv] w fun e w' => ∃ v, e = .returned v ∧ WordsAre w w' v (wordsOf tr known) := by
  obtain ⟨i0, hi, hz0, hz1, hz2⟩ := info_parts Tryz.info_string
  obtain ⟨p, cap, hp, hc⟩ := id hT
  obtain ⟨q, capq, hq, hcq⟩ := id hK
  subst hp hq
  clear hc hcq
  unfold maxLen at hl
  have HNE : Hid (∀ x ∈ wordsOf tr known, x ≠ []) := hne
  clear hne
  go_enter Tryz.func112, Tryz.ntmps112
  go_wp2
  go_loopw [5, 6] (fun v l wr => ∃ (out : List ByteArray) (ao : Option Addr) (cv : Nat) (last : ByteArray), v = .slice ao out.length cv ∧ l = .string last ∧ wr.ownsRow w.heap.size 9 1 v out.length (out.map Value.string) ∧ Below w.heap.size w wr ∧ Hid (WInv (wordsOf tr known) (out.map ByteArray.toList) last.toList) ∧ out.length + toCome (wordsOf tr known) last.toList ≤ known.length) (fun _ l _ => toCome (wordsOf tr known) (strOf l))
  case atStart => exact ⟨[], none, 0, ByteArray.empty, rfl, rfl, World.ownsRow_nil _ _ _ _, Below.refl _ _, by show WInv _ _ _; simpa [ByteArray.toList_eq] using WInv.start HNE.out, by
    have := toCome_le (wordsOf tr known) (ByteArray.empty).toList
    have e : (wordsOf tr known).length = known.length := by simp [wordsOf]
    simp only [List.length_nil]; omega⟩
  case round =>
    obtain ⟨out, ao, cv, last, rfl, rfl, hown, hbw, HW, hcnt⟩ := hrel
    have hTr := hT.below hbw
    have hKr := hK.below hbw
    have hsz := hbw.size
    go_wp2
    go_loop [7, 8] (fun b i => ∃ (k : Nat) (best : ByteArray), k ≤ known.length ∧ i = .int .i64 k ∧ b = .string best ∧ Hid (Best (wordsOf tr (known.take k)) last.toList best.toList)) (fun _ i => known.length - (intOf i).toNat)
    case atStart => exact ⟨0, _, Nat.zero_le _, rfl, rfl, by simpa [Hid, wordsOf, ByteArray.toList_eq] using Best.nil _⟩
    case round =>
      obtain ⟨k, best, hk', rfl, rfl, HB⟩ := hrel
      by_cases hlt : k < known.length
      · obtain ⟨g, gq, rfl, rfl, hyl, hg, hgq, ck, d3, d4, d5⟩ := at_known hTr hKr hk hlt
        have HWS : Hid (wordsOf tr (known.take (k + 1)) = wordsOf tr (known.take k) ++ [(cmAt tr known[k]).word.toList]) := wordsOf_snoc tr known k hlt
        clear hT hK hTr hKr
        generalize cmAt tr known[k] = Y at *
        generalize known[k] = y at *
        obtain ⟨ky, wy, cy⟩ := Y
        simp only at d3 d4 d5
        by_cases hgt : last.toList < wy.toList
        · have f1 : Op.bytesLess wy.toList last.toList = false := not_less_of (wd_asymm hgt)
          have f2 : (wy.toList == last.toList) = false := by rw [beq_eq_false_iff_ne]; exact fun e => wd_irrefl _ (e ▸ hgt)
          have f3 : ¬ wy.toList = last.toList := fun e => wd_irrefl _ (e ▸ hgt)
          have HG : Hid (last.toList < wy.toList) := hgt
          clear hgt
          by_cases hbe : best.toList = []
          · have HBE : Hid (best.toList = [] ∨ wy.toList < best.toList) := .inl hbe
            obtain rfl := toList_ne hbe
            clear hbe
            go_wp2
            go_round
            case rel => exact ⟨k + 1, wy, by omega, by go_num, rfl, by show Best _ _ _; rw [HWS.out]; exact Best.take HB.out HG.out HBE.out⟩
            case measure => simp [intOf]; omega
          · have g1 : best.toList.isEmpty = false := by simpa using hbe
            have HBE : Hid (best.toList ≠ []) := hbe
            by_cases hlb : wy.toList < best.toList
            · have g2 := less_of hlb
              have HLB : Hid (wy.toList < best.toList) := hlb
              clear hlb
              go_wp2
              go_round
              case rel => exact ⟨k + 1, wy, by omega, by go_num, rfl, by show Best _ _ _; rw [HWS.out]; exact Best.take HB.out HG.out (.inr HLB.out)⟩
              case measure => simp [intOf]; omega
            · have g2 := not_less_of hlb
              have HLB : Hid (¬ wy.toList < best.toList) := hlb
              clear hlb
              go_wp2
              go_round
              case rel => exact ⟨k + 1, best, by omega, by go_num, rfl, by show Best _ _ _; rw [HWS.out]; exact Best.stay HB.out HBE.out HLB.out⟩
              case measure => simp [intOf]; omega
        · have HG : Hid (¬ last.toList < wy.toList) := hgt
          by_cases heq : wy.toList = last.toList
          · obtain rfl := toList_inj heq
            clear heq hgt
            go_wp2
            go_round
            case rel => exact ⟨k + 1, best, by omega, by go_num, rfl, by show Best _ _ _; rw [HWS.out]; exact Best.skip HB.out HG.out⟩
            case measure => simp [intOf]; omega
          · have f1 : Op.bytesLess wy.toList last.toList = true := less_of (by
              by_cases h : wy.toList < last.toList
              · exact h
              · exact absurd (wd_tri h hgt) heq)
            clear heq hgt
            go_wp2
            go_round
            case rel => exact ⟨k + 1, best, by omega, by go_num, rfl, by show Best _ _ _; rw [HWS.out]; exact Best.skip HB.out HG.out⟩
            case measure => simp [intOf]; omega
      · have HB' : Hid (Best (wordsOf tr known) last.toList best.toList) := by
          have := HB.out; rwa [List.take_of_length_le (by omega)] at this
        clear HB hT hK hTr hKr
        by_cases hbe : best.toList = []
        · have HBE : Hid (best.toList = []) := hbe
          obtain rfl := toList_ne hbe
          clear hbe
          go_wp2
          go_ret
          exact ⟨_, rfl, out, hown, hbw, HW.out.sorted, HW.out.done (by have := HB'.out; rwa [HBE.out] at this), by rw [wordsOf_length]; omega⟩
        · have g1 : best.toList.isEmpty = false := by simpa using hbe
          have HBE : Hid (best.toList ≠ []) := hbe
          have hlt2 := toCome_lt HB'.out hbe
          go_wp2_with (at_builtin; refine wpList_append_lies _ rfl _ _ 133 rfl w.heap.size 9 i0 (.string ByteArray.empty) 1 16 Tryz.underlying133 hi hz0 hz1 hz2 rfl (by decide) _ out.length (out.map Value.string) rfl (hown.alloc _) ⟨wr.heap.size, 0, none⟩ 1 1 [.string best] rfl rfl (cell_one_new _ _ _) (fun x hx => by simp at hx; subst hx; rfl) (by decide) (by unfold maxLen; omega) (by omega) (by simp; omega) (wr.heap.size + 1) (by simp) ?_; intro g cap' w1 hown' hgrow hat hlt')
          go_roundw
          case rel => exact ⟨out ++ [best], some ⟨g, 0, none⟩, cap', best, by simp, rfl, by simpa using hown', (hbw.alloc hsz _).grown hgrow (by simp; omega) (fun q hq => (hown.lt q hq).1), by simpa [Hid] using HW.out.step HB'.out HBE.out, by simp; omega⟩
          case measure => simp [strOf]; omega
end Go.Proofs.YtckmppkdpnhodaaGreatDoor
