/-
  The queue's Pop. heap.Pop, heap.Init. heap.Init. Contract of (*Box).Put. (*Box).Tick, (*Box).Owe; the test of (*Box).Known; slices.IndexFunc over items.
-/
import Derived.Test.YtckmppkdpnhodaaGreatDoorT07
import Derived.Deep.RegionHeld3
namespace Go.Proofs.YtckmppkdpnhodaaGreatDoor
set_option linter.unusedVariables false
set_option linter.unusedSimpArgs false
open Go.RowKit Go.Proofs

attribute [local go_sem ↓] Go.wp_at_zero Go.wp_at_succ

theorem itRow_take (its : List It) (x : It) {cur : Array Value} (h : cur.toList.take ((its.length + 1) * 12) = itRow (its ++ [x])) : cur.toList.take (its.length * 12) = itRow its := by
  have : (cur.toList.take ((its.length + 1) * 12)).take (its.length * 12) = (itRow (its ++ [x])).take (its.length * 12) := by rw [h]
  rw [List.take_take, Nat.min_eq_left (by omega), itRow_snoc] at this
  rw [this]
  exact List.take_left' (itRow_length its)

set_option maxRecDepth 100000 in
set_option maxHeartbeats 8000000 in
theorem qpopG (rb g cap : Nat) (its : List It) (x : It) (hl : its.length < 1000) (C : Array Value) (T : TypeId) (w : World) (hq : QAt w rb C T (.slice (some ⟨g, 0, none⟩) (its.length + 1) cap) (its ++ [x])) :
    Calls Tryz.prog 234 #[.pointer (some ⟨rb, 11, none⟩)] w fun e w' => e = .returned (.iface 171 x.val) ∧ QTo w rb C T (.slice (some ⟨g, 0, none⟩) (its.length + 1) cap) its g cap w' := by
  have hlen : (its ++ [x]).length = its.length + 1 := by simp
  have hrow := hq.row
  rw [hlen] at hrow
  obtain ⟨cur, hr, hs, hm, -⟩ := qrow_of_own hlen.symm hrow
  have hC : 11 < C.size := (Array.getElem?_eq_some_iff.1 hq.c11).1
  have hgl := (Array.getElem?_eq_some_iff.1 hr.blk).1
  have hrl := (Array.getElem?_eq_some_iff.1 hq.rbk).1
  have hgr : g ≠ rb := fun e => hq.ne (by rw [e]; rfl)
  have hxx : (its ++ [x])[its.length]'(by simp) = x := by simp
  have hcell : ∀ o v, o < 12 → x.cells[o]? = some v → w.cell? ⟨g, its.length * 12 + o, none⟩ = some v := fun o v ho hv => hr.cell (i := its.length) (o := o) (by simp) ho (by rw [hxx]; exact hv)
  have c11 : w.cell? ⟨rb, 11, none⟩ = some (.slice (some ⟨g, 0, none⟩) (its.length + 1) cap) := by rw [cell_of_heap hq.rbk]; exact hq.c11
  have f11 : w.frozen? ⟨rb, 11, none⟩ = false := frozen_of_heap hq.rbk _
  have hle := hr.le
  rw [hlen] at hle
  have hmx : cap ≤ maxLen := hm
  have HQ : Hid (QAt w rb C T (.slice (some ⟨g, 0, none⟩) (its.length + 1) cap) (its ++ [x])) := hq
  have HR : Hid (QRow w g cap (its ++ [x]) cur ∧ cur.size = cap * 12 ∧ cap ≤ maxLen) := ⟨hr, hs, hm⟩
  clear hq hr hrow hs hxx hm
  generalize hk : its.length = k at *
  obtain ⟨p0, p1, p2, p3, p4, p5, p6, p7, p8, p9, p11, ps, hx, hxv, c0, c1, c2, c3, c4, c5, c6, c7, c8, c9, c10, c11⟩ : ∃ (p0 p1 p2 p3 p4 p5 p6 p7 p8 p9 p11 : Int) (ps : ByteArray), x.cells = [.int .i64 p0, .int .i64 p1, .int .i64 p2, .int .i64 p3, .int .i64 p4, .int .i64 p5, .int .i64 p6, .int .i64 p7, .int .i64 p8, .int .i64 p9, .string ps, .int .i64 p11] ∧ x.val = .agg #[.int .i64 p0, .int .i64 p1, .int .i64 p2, .int .i64 p3, .int .i64 p4, .int .i64 p5, .int .i64 p6, .int .i64 p7, .int .i64 p8, .int .i64 p9, .string ps, .int .i64 p11] ∧ w.cell? ⟨g, k * 12, none⟩ = some (.int .i64 p0) ∧ w.cell? ⟨g, k * 12 + 1, none⟩ = some (.int .i64 p1) ∧ w.cell? ⟨g, k * 12 + 2, none⟩ = some (.int .i64 p2) ∧ w.cell? ⟨g, k * 12 + 3, none⟩ = some (.int .i64 p3) ∧ w.cell? ⟨g, k * 12 + 4, none⟩ = some (.int .i64 p4) ∧ w.cell? ⟨g, k * 12 + 5, none⟩ = some (.int .i64 p5) ∧ w.cell? ⟨g, k * 12 + 6, none⟩ = some (.int .i64 p6) ∧ w.cell? ⟨g, k * 12 + 7, none⟩ = some (.int .i64 p7) ∧ w.cell? ⟨g, k * 12 + 8, none⟩ = some (.int .i64 p8) ∧ w.cell? ⟨g, k * 12 + 9, none⟩ = some (.int .i64 p9) ∧ w.cell? ⟨g, k * 12 + 10, none⟩ = some (.string ps) ∧ w.cell? ⟨g, k * 12 + 11, none⟩ = some (.int .i64 p11) :=
    ⟨_, _, _, _, _, _, _, _, _, _, _, _, rfl, rfl, hcell 0 _ (by omega) rfl, hcell 1 _ (by omega) rfl, hcell 2 _ (by omega) rfl, hcell 3 _ (by omega) rfl, hcell 4 _ (by omega) rfl, hcell 5 _ (by omega) rfl, hcell 6 _ (by omega) rfl, hcell 7 _ (by omega) rfl, hcell 8 _ (by omega) rfl, hcell 9 _ (by omega) rfl, hcell 10 _ (by omega) rfl, hcell 11 _ (by omega) rfl⟩
  have HXV : Hid (x.val = .agg #[.int .i64 p0, .int .i64 p1, .int .i64 p2, .int .i64 p3, .int .i64 p4, .int .i64 p5, .int .i64 p6, .int .i64 p7, .int .i64 p8, .int .i64 p9, .string ps, .int .i64 p11]) := hxv
  clear hx hxv hcell
  unfold maxLen at hmx
  have k0 : (0 : Int) ≤ (k : Int) := by omega
  have k1 : (k : Int) < (k : Int) + 1 := by omega
  have hkc : (k : Int) ≤ (cap : Int) := by omega
  go_enter Tryz.func234, Tryz.ntmps234
  go_wp2
  go_ret
  refine ⟨by rw [HXV.out]; rfl, ?_⟩
  subst hk
  obtain ⟨hr, hs, hm⟩ := HR.out
  have e1 : ∀ (W : World) o b, W.heap.size = w.heap.size → b < w.heap.size → (W.alloc o).heap[b]? = W.heap[b]? := fun W o b h hb => Below.heap_alloc W o b (by omega)
  have sz : (w.setCell ⟨rb, 11, none⟩ (.slice (some ⟨g, 0, none⟩) its.length cap)).heap.size = w.heap.size := size_setCell' _ _ _
  refine ⟨own_of_qrow (cur := cur) ⟨?_, by omega, by omega, itRow_take its x (by have := hr.row; rwa [hlen] at this)⟩ hs hm (Nat.zero_le _), .inl rfl, hgr, ?_, ?_⟩
  · rw [e1 _ _ g sz hgl, Below.heap_setCell _ _ _ _ hgr]
    exact hr.blk
  · rw [e1 _ _ rb sz hrl]
    exact heap_setCell_same HQ.out.rbk _
  · exact ((Upd.refl _ w).setCell (.inl (by simp)) _).alloc _

end Go.Proofs.YtckmppkdpnhodaaGreatDoor

namespace Go.Proofs.YtckmppkdpnhodaaGreatDoor
set_option linter.unusedVariables false
set_option linter.unusedSimpArgs false
open Go.RowKit Go.Proofs

attribute [local go_sem ↓] Go.wp_at_zero Go.wp_at_succ

theorem meth_Pop (rb : Nat) (W : World) : (method 409 175 (.pointer (some ⟨rb, 11, none⟩)) "Pop").run Tryz.prog W = .ok (234, .pointer (some ⟨rb, 11, none⟩)) W := by kernel_rfl

/-- The box behind turns of its row. -/
theorem QAt.turn {w : World} {rb : Nat} {C : Array Value} {T : TypeId} {g n cap : Nat} {its its' : List It} {cur cur' : Array Value} {W : World} (h : QAt w rb C T (.slice (some ⟨g, 0, none⟩) n cap) its) (hn : n = its.length) (ht : Turn w g cap its cur its' cur' W) (hs : cur.size = cap * 12) (hm : cap ≤ maxLen) : QAt W rb C T (.slice (some ⟨g, 0, none⟩) n cap) its' := by
  subst hn
  have hrl := (Array.getElem?_eq_some_iff.1 h.rbk).1
  have hgr : g ≠ rb := fun e => h.ne (by rw [e]; rfl)
  refine ⟨(ht.upd.block rb hrl (by simp; exact fun e => hgr e.symm)).trans h.rbk, h.c11, ?_, h.ne⟩
  rw [← ht.len]
  exact own_of_qrow ht.row (ht.csz.trans hs) hm (Nat.zero_le _)

theorem Turn.trans {w : World} {g cap : Nat} {a b c : List It} {ca cb cc : Array Value} {W W' : World} (h1 : Turn w g cap a ca b cb W) (h2 : Turn W g cap b cb c cc W') : Turn w g cap a ca c cc W' :=
  ⟨h2.row, h2.csz.trans h1.csz, h2.perm.trans h1.perm, h2.len.trans h1.len, h1.upd.trans h2.upd (fun i hi => .inl hi)⟩

set_option maxRecDepth 100000 in
set_option maxHeartbeats 8000000 in
theorem popG (rb : Nat) (its : List It) (hne : 0 < its.length) (hl : its.length ≤ 1000) (wv : Value) (C : Array Value) (T : TypeId) (w : World) (hq : QAt w rb C T wv its) (hh : HeapFrom 0 its.length (kF its)) :
    Calls Tryz.prog 138 #[.iface 175 (.pointer (some ⟨rb, 11, none⟩))] w fun e w' => ∃ x its' g cap, e = .returned (.iface 171 x.val) ∧ QTo w rb C T wv its' g cap w' ∧ (x :: its').Perm its ∧ HeapFrom 0 its'.length (kF its') ∧ ∀ y ∈ its, x.due ≤ y.due := by
  obtain ⟨g, cap, rfl, -, hgl⟩ := hq.row.form hne
  obtain ⟨cur, hr, hs, hm, -⟩ := qrow_of_own rfl hq.row
  have hgr : g ≠ rb := fun e => hq.ne (by rw [e]; rfl)
  obtain ⟨k, hk⟩ : ∃ k, its.length = k + 1 := ⟨its.length - 1, by omega⟩
  have c11 : w.cell? ⟨rb, 11, none⟩ = some (.slice (some ⟨g, 0, none⟩) its.length cap) := by rw [cell_of_heap hq.rbk]; exact hq.c11
  have HS : Hid (Calls Tryz.prog 233 #[.slice (some ⟨g, 0, none⟩) (k + 1) cap, .int .i64 0, .int .i64 (k : Int)] w fun e w' => e = .returned (.tuple #[]) ∧ ∃ cur1, Turn w g cap its cur (swapL its 0 k) cur1 w') := by
    have : Calls Tryz.prog 233 #[.slice (some ⟨g, 0, none⟩) its.length cap, .int .i64 ((0 : Nat) : Int), .int .i64 (k : Int)] w fun e w' => e = .returned (.tuple #[]) ∧ ∃ cur1, Turn w g cap its cur (swapL its 0 k) cur1 w' := by
      refine (swapG g cap 0 k its (by omega) (by omega) hl cur w hr).mono ?_
      rintro e w' ⟨he, n, rfl⟩
      obtain ⟨c, hc⟩ := (Turn.refl hr).swap (i := 0) (j := k) (by omega) (by omega) n
      exact ⟨he, c, hc⟩
    rw [hk] at this
    exact this
  have HD : Hid (∀ W cur1, Turn w g cap its cur (swapL its 0 k) cur1 W → Calls Tryz.prog 149 #[.iface 175 (.pointer (some ⟨rb, 11, none⟩)), .int .i64 0, .int .i64 (k : Int)] W fun e w' => (∃ b, e = .returned (.bool b)) ∧ ∃ its3 x cur2, Hid (Turn w g cap its cur (its3 ++ [x]) cur2 w' ∧ HeapFrom 0 its3.length (kF its3) ∧ (∀ y ∈ its, x.due ≤ y.due) ∧ its3.length = k)) := fun W cur1 ht => by
    have hlen1 := swapL_length its 0 k
    have hc := ht.cell11 c11 hgr
    rw [← hlen1] at hc
    refine (downG rb g cap 0 k (swapL its 0 k) (by omega) (Nat.zero_le _) (by omega) cur1 W hc ht.row hgr (DnInv.start ?_)).mono ?_
    · rw [kF_swap (by omega) (by omega)]
      intro c h0 hc hp
      rw [swapF_o _ (by omega) (by omega), swapF_o _ (by omega) (by omega)]
      exact hh c h0 (by omega) (Nat.zero_le _)
    · rintro e w' ⟨hb, its2, cur2, ht2, hp2, hf2⟩
      have hl2 : its2.length = k + 1 := by rw [ht2.len, hlen1, hk]
      have hx : its2[k]? = its[0]? := by rw [hf2 k (Nat.le_refl _), swapL_get (by omega) (by omega), if_pos rfl]
      have hx' : its2[k]'(by omega) = its[0]'(by omega) := by
        rw [List.getElem?_eq_getElem (by omega), List.getElem?_eq_getElem (by omega)] at hx
        exact Option.some.inj hx
      have hsp : its2 = its2.take k ++ [its[0]'(by omega)] := by
        rw [← hx', ← take_snocP its2 k (by omega), List.take_of_length_le (by omega)]
      refine ⟨hb, its2.take k, its[0]'(by omega), cur2, ?_, ?_, ?_, by rw [List.length_take]; omega⟩
      · rw [← hsp]; exact ht.trans ht2
      · rw [List.length_take, Nat.min_eq_left (by omega)]
        refine hp2.congr fun t htk => ?_
        unfold kF
        rw [List.getElem?_take_of_lt htk]
      · intro y hy
        obtain ⟨c, hc, rfl⟩ := List.mem_iff_getElem.1 hy
        have := hh.root c hc
        rwa [kF_get (by omega), kF_get hc] at this
  have HP : Hid (∀ W its3 x cur2, Hid (Turn w g cap its cur (its3 ++ [x]) cur2 W ∧ HeapFrom 0 its3.length (kF its3) ∧ (∀ y ∈ its, x.due ≤ y.due) ∧ its3.length = k) → Calls Tryz.prog 234 #[.pointer (some ⟨rb, 11, none⟩)] W fun e w' => e = .returned (.iface 171 x.val) ∧ QTo w rb C T (.slice (some ⟨g, 0, none⟩) its.length cap) its3 g cap w') := fun W its3 x cur2 hW => by
    obtain ⟨ht, -, -, hl3⟩ := hW.out
    have hqa := hq.turn rfl ht hs hm
    rw [show its.length = its3.length + 1 by omega] at hqa ⊢
    refine (qpopG rb g cap its3 x (by omega) C T W hqa).mono ?_
    rintro e w' ⟨he, ho⟩
    refine ⟨he, ho.row, .inl rfl, ho.ne, ho.rbk, (ht.upd.mono (fun i hi => ?_)).trans ho.upd (fun i hi => .inl hi)⟩
    simp only [List.mem_singleton] at hi
    rw [hi]
    simp [Value.ownBlock]
  have HE : Hid (∀ W its3 x cur2 w', Hid (Turn w g cap its cur (its3 ++ [x]) cur2 W ∧ HeapFrom 0 its3.length (kF its3) ∧ (∀ y ∈ its, x.due ≤ y.due) ∧ its3.length = k) → QTo w rb C T (.slice (some ⟨g, 0, none⟩) its.length cap) its3 g cap w' → ∃ x' its' g' cap', (Value.iface 171 x.val = Value.iface 171 x'.val) ∧ QTo w rb C T (.slice (some ⟨g, 0, none⟩) its.length cap) its' g' cap' w' ∧ (x' :: its').Perm its ∧ HeapFrom 0 its'.length (kF its') ∧ ∀ y ∈ its, x'.due ≤ y.due) := fun W its3 x cur2 w' hW ho =>
    ⟨x, its3, g, cap, rfl, ho, (List.perm_append_comm (l₁ := [x]) (l₂ := its3)).trans hW.out.1.perm, hW.out.2.1, hW.out.2.2.1⟩
  have hmP := fun W => meth_Pop rb W
  have hmL := meth_Len rb w _ _ _ c11
  have hmS := meth_Swap rb w _ _ _ c11
  rw [hk] at hmL hmS
  clear hq hh hr hs hm c11
  go_enter Tryz.func138, Tryz.ntmps138
  go_wp2_with (first
    | (go_at_call 231; refine (len_any _ _ _ _).mono ?_; rintro e w' ⟨rfl, rfl⟩)
    | (go_at_call 233; refine Calls.mono HS.out ?_; rintro e w1 ⟨rfl, cur1, ht1⟩)
    | (go_at_call 149; refine Calls.mono (HD.out _ cur1 ht1) ?_; rintro e w2 ⟨⟨bb, rfl⟩, its3, x, cur2, hW2⟩)
    | (go_at_call 234; refine Calls.mono (HP.out _ its3 x cur2 hW2) ?_; rintro e w3 ⟨rfl, ho⟩))
  go_ret
  obtain ⟨x', its', g', cap', h1, h2⟩ := HE.out _ _ _ _ _ hW2 ho
  exact ⟨x', its', g', cap', by rw [← h1]; rfl, h2⟩

end Go.Proofs.YtckmppkdpnhodaaGreatDoor

namespace Go.Proofs.YtckmppkdpnhodaaGreatDoor
set_option linter.unusedVariables false
set_option linter.unusedSimpArgs false
open Go.RowKit Go.Proofs

attribute [local go_sem ↓] Go.wp_at_zero Go.wp_at_succ

set_option maxRecDepth 100000 in
set_option maxHeartbeats 8000000 in
theorem init_row (rb g cap : Nat) (its : List It) (hl : its.length ≤ 1000) (cur : Array Value) (w : World) (h11 : w.cell? ⟨rb, 11, none⟩ = some (.slice (some ⟨g, 0, none⟩) its.length cap)) (hq : QRow w g cap its cur) (hne : g ≠ rb) :
    Calls Tryz.prog 110 #[.iface 175 (.pointer (some ⟨rb, 11, none⟩))] w fun e w' => e = .returned (.tuple #[]) ∧ ∃ its' cur', Turn w g cap its cur its' cur' w' ∧ HeapFrom 0 its.length (kF its') := by
  have H11 : Hid (w.cell? ⟨rb, 11, none⟩ = some (.slice (some ⟨g, 0, none⟩) its.length cap)) := h11
  have HT0 : Hid (Turn w g cap its cur its cur w) := Turn.refl hq
  have hmL := meth_Len rb w _ _ _ h11
  clear h11 hq
  generalize hn : its.length = n at *
  go_enter Tryz.func110, Tryz.ntmps110
  go_wp2_with (go_at_call 231; refine (len_any _ _ _ _).mono ?_; rintro e w' ⟨rfl, hw⟩; have hw' := hw.symm; clear hw; subst hw')
  go_loopw [3] (fun v wr => ∃ (m : Nat) (z : Int), v = .int .i64 z ∧ z + 1 = (m : Int) ∧ m ≤ n ∧ ∃ its' cur', Hid (Turn w g cap its cur its' cur' wr ∧ HeapFrom m n (kF its'))) (fun v _ => (intOf v + 1).toNat)
  case atStart => exact ⟨n / 2, (n : Int) / 2 - 1, rfl, by omega, by omega, its, cur, HT0.out, fun c h0 hc hp => by omega⟩
  case round =>
    obtain ⟨m, z, rfl, hz, hm, its', cur', HT⟩ := hrel
    rcases m with _ | k
    · obtain rfl : z = -1 := by omega
      go_wp2
      go_end0
      exact ⟨rfl, its', cur', HT.out.1, HT.out.2⟩
    · obtain rfl : z = (k : Int) := by omega
      have hlen := HT.out.1.len
      have hc11 := HT.out.1.cell11 H11.out hne
      have HD : Hid (Calls Tryz.prog 149 #[.iface 175 (.pointer (some ⟨rb, 11, none⟩)), .int .i64 (k : Int), .int .i64 (n : Int)] wr fun e w' => (∃ b, e = .returned (.bool b)) ∧ ∃ its2 cur2, Turn w g cap its cur its2 cur2 w' ∧ HeapFrom k n (kF its2)) := by
        refine (downG rb g cap k n its' (by omega) (by omega) (by omega) cur' wr (by rw [hlen, hn]; exact hc11) HT.out.1.row hne (DnInv.start HT.out.2)).mono ?_
        rintro e w' ⟨hb, its2, cur2, ht2, hp2, -⟩
        exact ⟨hb, its2, cur2, HT.out.1.trans ht2, hp2⟩
      go_wp2_with (go_at_call 149; refine Calls.mono HD.out ?_; rintro e w2 ⟨⟨bb, rfl⟩, its2, cur2, ht2, hp2⟩)
      go_roundw
      case rel => exact ⟨k, (k : Int) - 1, rfl, by omega, by omega, its2, cur2, ht2, hp2⟩
      case measure => simp [intOf]

set_option maxRecDepth 100000 in
set_option maxHeartbeats 4000000 in
theorem init_nil (rb : Nat) (w : World) (h11 : w.cell? ⟨rb, 11, none⟩ = some (.slice none 0 0)) :
    Calls Tryz.prog 110 #[.iface 175 (.pointer (some ⟨rb, 11, none⟩))] w fun e w' => e = .returned (.tuple #[]) ∧ w' = w := by
  have hmL := meth_Len rb w _ _ _ h11
  go_enter Tryz.func110, Tryz.ntmps110
  go_wp2_with (go_at_call 231; refine (len_any _ _ _ _).mono ?_; rintro e w' ⟨rfl, hw⟩; have hw' := hw.symm; clear hw; subst hw')
  go_loopw [3] (fun v wr => v = .int .i64 (-1) ∧ wr = w) (fun _ _ => 0)
  case atStart => exact ⟨by first | rfl | (congr 1), rfl⟩
  case round =>
    obtain ⟨rfl, rfl⟩ := hrel
    go_wp2
    go_end0
    exact ⟨rfl, rfl⟩

/-- heap.Init: the same items, as a heap. -/
theorem initG (rb : Nat) (its : List It) (hl : its.length ≤ 1000) (wv : Value) (C : Array Value) (T : TypeId) (w : World) (hq : QAt w rb C T wv its) :
    Calls Tryz.prog 110 #[.iface 175 (.pointer (some ⟨rb, 11, none⟩))] w fun e w' => e = .returned (.tuple #[]) ∧ ∃ its', QAt w' rb C T wv its' ∧ its'.Perm its ∧ HeapFrom 0 its'.length (kF its') ∧ Upd [wv.ownBlock] w w' := by
  have c11 : w.cell? ⟨rb, 11, none⟩ = some wv := by rw [cell_of_heap hq.rbk]; exact hq.c11
  rcases id hq.row.2 with ⟨h1, h0⟩ | ⟨g, cap, cur, h1, -, hg, hle, hm, hs, ht⟩
  · rw [h1] at c11
    refine (init_nil rb w c11).mono ?_
    rintro e w' ⟨he, rfl⟩
    exact ⟨he, its, hq, List.Perm.refl _, fun c _ hc => by omega, Upd.refl _ _⟩
  · subst h1
    have hgr : g ≠ rb := fun e => hq.ne (by rw [e]; rfl)
    refine (init_row rb g cap its hl cur w c11 ⟨hg, hle, by omega, ht⟩ hgr).mono ?_
    rintro e w' ⟨he, its', cur', ht', hp⟩
    exact ⟨he, its', hq.turn rfl ht' hs hm, ht'.perm, by rw [ht'.len]; exact hp, ht'.upd⟩

end Go.Proofs.YtckmppkdpnhodaaGreatDoor

namespace Go.Proofs.YtckmppkdpnhodaaGreatDoor
set_option linter.unusedVariables false
set_option linter.unusedSimpArgs false
open Go.RowKit Go.Proofs

attribute [local go_sem ↓] Go.wp_at_zero Go.wp_at_succ

set_option maxRecDepth 100000 in
set_option maxHeartbeats 4000000 in
theorem boxputG (rb : Nat) (its : List It) (hl : its.length < 1000) (now : Nat) (t : Nat) (en : En) (hd : now < 1152921504606846976) (ht : t < 5) (wv : Value) (C : Array Value) (T : TypeId) (w : World) (hq : QAt w rb C T wv its) (hh : HeapFrom 0 its.length (kF its)) (h10 : C[10]? = some (.int .i64 (now : Int))) :
    Calls Tryz.prog 50 #[.pointer (some ⟨rb, 10, none⟩), .int .i64 (t : Int), en.val] w fun e w' =>
      e = .returned (.tuple #[]) ∧ ∃ its' g cap, QTo w rb C T wv its' g cap w' ∧ its'.Perm (its ++ [⟨now, t, en, hd, ht⟩]) ∧ HeapFrom 0 its'.length (kF its') := by
  have hrb := hq.rbk
  have hrl : rb < w.heap.size := (Array.getElem?_eq_some_iff.1 hrb).1
  have HP : Hid (∀ W, Below w.heap.size w W → Calls Tryz.prog 89 #[.iface 175 (.pointer (some ⟨rb, 11, none⟩)), .iface 171 (.agg #[.int .i64 (now : Int), .int .i64 (t : Int), .int .i64 (en.org : Int), .int .i64 (en.seq : Int), .int .i64 (en.ah.a : Int), .int .i64 (en.ah.b : Int), .int .i64 (en.ah.c : Int), .int .i64 (en.ah.d : Int), .int .i64 (en.ah.e : Int), .int .i64 (en.c.k.num : Int), .string en.c.word, .int .i64 (en.c.count : Int)])] W fun e w' =>
      e = .returned (.tuple #[]) ∧ ∃ its' g cap, QTo W rb C T wv its' g cap w' ∧ its'.Perm (its ++ [⟨now, t, en, hd, ht⟩]) ∧ HeapFrom 0 its'.length (kF its')) := fun W hW => pushG rb its hl ⟨now, t, en, hd, ht⟩ wv C T W (hq.below hW) hh
  have hrow := hq.row
  have c10 : w.cell? ⟨rb, 10, none⟩ = some (.int .i64 (now : Int)) := by rw [cell_of_heap hrb, h10]
  have H10 : Hid (C[10]? = some (.int .i64 (now : Int))) := h10
  have hwl : ∀ b, wv.ownBlock = some b → b < w.heap.size := fun b hb => (hrow.lt b hb).2
  clear hrow hrb h10 hq hh
  simp only [En.val]
  go_enter Tryz.func50, Tryz.ntmps50
  go_upto_region 1 with fail
  obtain ⟨wa, hwa⟩ : ∃ wa, w.alloc (.cells #[.int .i64 (en.org : Int), .int .i64 (en.seq : Int), .int .i64 (en.ah.a : Int), .int .i64 (en.ah.b : Int), .int .i64 (en.ah.c : Int), .int .i64 (en.ah.d : Int), .int .i64 (en.ah.e : Int), .int .i64 (en.c.k.num : Int), .string en.c.word, .int .i64 (en.c.count : Int)] 122) = wa := ⟨_, rfl⟩
  have hba : Below w.heap.size w wa := by rw [← hwa]; exact (Below.refl _ w).alloc (Nat.le_refl _) _
  have hea : wa.heap[w.heap.size]? = some (.cells #[.int .i64 (en.org : Int), .int .i64 (en.seq : Int), .int .i64 (en.ah.a : Int), .int .i64 (en.ah.b : Int), .int .i64 (en.ah.c : Int), .int .i64 (en.ah.d : Int), .int .i64 (en.ah.e : Int), .int .i64 (en.c.k.num : Int), .string en.c.word, .int .i64 (en.c.count : Int)] 122 (0, 0)) := by rw [← hwa]; exact heap_alloc_new w _
  have hsa : wa.heap.size = w.heap.size + 1 := by rw [← hwa]; simp
  rw [hwa]
  clear hwa
  have a10 := cell_below hba c10
  have a0 : wa.cell? ⟨w.heap.size, 0, none⟩ = some (.int .i64 (en.org : Int)) := by rw [cell_of_heap hea]; rfl
  have a1 : wa.cell? ⟨w.heap.size, 1, none⟩ = some (.int .i64 (en.seq : Int)) := by rw [cell_of_heap hea]; rfl
  have a2 : wa.cell? ⟨w.heap.size, 2, none⟩ = some (.int .i64 (en.ah.a : Int)) := by rw [cell_of_heap hea]; rfl
  have a3 : wa.cell? ⟨w.heap.size, 3, none⟩ = some (.int .i64 (en.ah.b : Int)) := by rw [cell_of_heap hea]; rfl
  have a4 : wa.cell? ⟨w.heap.size, 4, none⟩ = some (.int .i64 (en.ah.c : Int)) := by rw [cell_of_heap hea]; rfl
  have a5 : wa.cell? ⟨w.heap.size, 5, none⟩ = some (.int .i64 (en.ah.d : Int)) := by rw [cell_of_heap hea]; rfl
  have a6 : wa.cell? ⟨w.heap.size, 6, none⟩ = some (.int .i64 (en.ah.e : Int)) := by rw [cell_of_heap hea]; rfl
  have a7 : wa.cell? ⟨w.heap.size, 7, none⟩ = some (.int .i64 (en.c.k.num : Int)) := by rw [cell_of_heap hea]; rfl
  have a8 : wa.cell? ⟨w.heap.size, 8, none⟩ = some (.string en.c.word) := by rw [cell_of_heap hea]; rfl
  have a9 : wa.cell? ⟨w.heap.size, 9, none⟩ = some (.int .i64 (en.c.count : Int)) := by rw [cell_of_heap hea]; rfl
  have HBA : Hid (Below w.heap.size w wa) := hba
  have HPA := HP.out wa.drew hba.drew
  have HPH : Hid _ := HPA
  have HEA : Hid (wa.heap[w.heap.size]? = some (.cells #[.int .i64 (en.org : Int), .int .i64 (en.seq : Int), .int .i64 (en.ah.a : Int), .int .i64 (en.ah.b : Int), .int .i64 (en.ah.c : Int), .int .i64 (en.ah.d : Int), .int .i64 (en.ah.e : Int), .int .i64 (en.c.k.num : Int), .string en.c.word, .int .i64 (en.c.count : Int)] 122 (0, 0))) := hea
  have HK : Hid (∀ w2 g cap L, w2.heap[rb]? = some (.cells (C.setIfInBounds 11 (.slice (some ⟨g, 0, none⟩) L cap)) T (0, 0)) → Upd [some rb, wv.ownBlock] wa.drew w2 → w2.cell? ⟨rb, 10, none⟩ = some (.int .i64 (now : Int)) ∧ w2.heap[w.heap.size]? = some (.cells #[.int .i64 (en.org : Int), .int .i64 (en.seq : Int), .int .i64 (en.ah.a : Int), .int .i64 (en.ah.b : Int), .int .i64 (en.ah.c : Int), .int .i64 (en.ah.d : Int), .int .i64 (en.ah.e : Int), .int .i64 (en.c.k.num : Int), .string en.c.word, .int .i64 (en.c.count : Int)] 122 (0, 0))) := fun w2 g cap L h1 h2 => by
    refine ⟨by rw [cell_of_heap h1, Array.getElem?_setIfInBounds_ne (by omega)]; exact H10.out, (h2.block w.heap.size (by show w.heap.size < wa.heap.size; omega) fun hm => ?_).trans HEA.out⟩
    simp only [List.mem_cons, List.not_mem_nil, or_false, Option.some.injEq] at hm
    rcases hm with h | h
    · omega
    · have := hwl _ h.symm; omega
  clear c10 hba hea HPA HP
  generalize hb0 : w.heap.size = b0 at *
  generalize hr0 : (en.ah.a : Int) = r0 at *
  generalize hr1 : (en.ah.b : Int) = r1 at *
  generalize hr2 : (en.ah.c : Int) = r2 at *
  generalize hr3 : (en.ah.d : Int) = r3 at *
  generalize hr4 : (en.ah.e : Int) = r4 at *
  go_region_held3 (fun w' => w'.cell? ⟨rb, 10, none⟩ = some (.int .i64 (now : Int)) ∧ w'.cell? ⟨b0, 0, none⟩ = some (.int .i64 (en.org : Int)) ∧ w'.cell? ⟨b0, 1, none⟩ = some (.int .i64 (en.seq : Int)) ∧ w'.cell? ⟨b0, 2, none⟩ = some (.int .i64 r0) ∧ w'.cell? ⟨b0, 3, none⟩ = some (.int .i64 r1) ∧ w'.cell? ⟨b0, 4, none⟩ = some (.int .i64 r2) ∧ w'.cell? ⟨b0, 5, none⟩ = some (.int .i64 r3) ∧ w'.cell? ⟨b0, 6, none⟩ = some (.int .i64 r4) ∧ w'.cell? ⟨b0, 7, none⟩ = some (.int .i64 (en.c.k.num : Int)) ∧ w'.cell? ⟨b0, 8, none⟩ = some (.string en.c.word) ∧ w'.cell? ⟨b0, 9, none⟩ = some (.int .i64 (en.c.count : Int)))
    (first
      | exact ⟨a10, a0, a1, a2, a3, a4, a5, a6, a7, a8, a9⟩
      | exact ⟨k10, by rw [cell_of_heap kh]; rfl, by rw [cell_of_heap kh]; rfl, by rw [cell_of_heap kh]; rfl, by rw [cell_of_heap kh]; rfl, by rw [cell_of_heap kh]; rfl, by rw [cell_of_heap kh]; rfl, by rw [cell_of_heap kh]; rfl, by rw [cell_of_heap kh]; rfl, by rw [cell_of_heap kh]; rfl, by rw [cell_of_heap kh]; rfl⟩
      | go_keep)
    (first
      | (go_at_call 89; refine Calls.mono HPH.out ?_; rintro e w2 ⟨rfl, its', g, cap, o1, o2, o3⟩; obtain ⟨k10, kh⟩ := HK.out w2 g cap _ o1.rbk o1.upd))
  go_end0
  refine ⟨rfl, its', g, cap, ⟨o1.row, ?_, o1.ne, o1.rbk, (Upd.of_below (S := [some rb, wv.ownBlock]) (by rw [hb0]; exact HBA.out.drew)).trans o1.upd (fun i hi => .inl hi)⟩, o2, o3⟩
  rcases o1.own with h | h
  · exact .inl h
  · exact .inr (by have : wa.drew.heap.size = wa.heap.size := rfl; omega)

end Go.Proofs.YtckmppkdpnhodaaGreatDoor

namespace Go.Proofs.YtckmppkdpnhodaaGreatDoor
set_option linter.unusedVariables false
set_option linter.unusedSimpArgs false
open Go.RowKit Go.Proofs

attribute [local go_sem ↓] Go.wp_at_zero Go.wp_at_succ

set_option maxHeartbeats 1000000 in
theorem tickG (rb now : Nat) (hn : now < 1152921504606846976) (w : World) (h10 : w.cell? ⟨rb, 10, none⟩ = some (.int .i64 (now : Int))) (f10 : w.frozen? ⟨rb, 10, none⟩ = false) :
    Calls Tryz.prog 54 #[.pointer (some ⟨rb, 10, none⟩)] w fun e w' => e = .returned (.tuple #[]) ∧ w' = w.setCell ⟨rb, 10, none⟩ (.int .i64 ((now + 1 : Nat) : Int)) := by
  go_enter Tryz.func54, Tryz.ntmps54
  go_wp2
  go_end0
  exact ⟨rfl, rfl⟩

set_option maxHeartbeats 1000000 in
theorem oweG (rb to : Nat) (ht : to < 5) (w : World) (b : Bool) (h12 : w.cell? ⟨rb, 12 + to, none⟩ = some (.bool b)) (f12 : w.frozen? ⟨rb, 12 + to, none⟩ = false) :
    Calls Tryz.prog 63 #[.pointer (some ⟨rb, 10, none⟩), .int .i64 (to : Int)] w fun e w' => e = .returned (.tuple #[]) ∧ w' = w.setCell ⟨rb, 12 + to, none⟩ (.bool true) := by
  have h0 : (0 : Int) ≤ (to : Int) := by omega
  have h5 : (to : Int) < 5 := by omega
  have h6 : (to : Int) ≤ 5 := by omega
  go_enter Tryz.func63, Tryz.ntmps63
  go_wp2
  go_end0
  exact ⟨rfl, rfl⟩

/-- Does the item go to a replica that knows it? -/
def delB (to cnt : Nat) (x : It) : Bool := decide (x.to = to) && decide (x.en.seq ≤ cnt)

set_option maxRecDepth 100000 in
set_option maxHeartbeats 2000000 in
theorem known1G (tb cb to cnt : Nat) (x : It) (w : World) (ht : w.cell? ⟨tb, 0, none⟩ = some (.int .i64 (to : Int))) (hc : w.cell? ⟨cb, 0, none⟩ = some (.int .i64 (cnt : Int))) :
    Calls Tryz.prog 109 #[.agg #[.int .i64 (x.due : Int), .int .i64 (x.to : Int), .int .i64 (x.en.org : Int), .int .i64 (x.en.seq : Int), .int .i64 (x.en.ah.a : Int), .int .i64 (x.en.ah.b : Int), .int .i64 (x.en.ah.c : Int), .int .i64 (x.en.ah.d : Int), .int .i64 (x.en.ah.e : Int), .int .i64 (x.en.c.k.num : Int), .string x.en.c.word, .int .i64 (x.en.c.count : Int)], .pointer (some ⟨tb, 0, none⟩), .pointer (some ⟨cb, 0, none⟩)] w fun e w' => e = .returned (.bool (delB to cnt x)) ∧ Below w.heap.size w w' := by
  have htl : tb < w.heap.size := World.block_lt_of_cell? w _ ht
  have hcl : cb < w.heap.size := World.block_lt_of_cell? w _ hc
  have HB : Hid (∀ o, Below w.heap.size w (w.alloc o)) := fun o => (Below.refl _ w).alloc (Nat.le_refl _) _
  by_cases h1 : x.to = to
  · have e1 : ((x.to : Int) == (to : Int)) = true := beq_iff_eq.2 (by omega)
    have HD : Hid (delB to cnt x = decide (x.en.seq ≤ cnt)) := by
      show _ = _
      unfold delB
      rw [decide_eq_true h1, Bool.true_and]
    clear h1
    go_enter Tryz.func109, Tryz.ntmps109
    go_wp2
    go_ret
    exact ⟨ret_bool HD.out.symm, HB.out _⟩
  · have e1 : ((x.to : Int) == (to : Int)) = false := beq_eq_false_iff_ne.2 (by omega)
    have HD : Hid (delB to cnt x = false) := by
      show _ = _
      unfold delB
      rw [decide_eq_false h1, Bool.false_and]
    clear h1
    go_enter Tryz.func109, Tryz.ntmps109
    go_wp2
    go_ret
    exact ⟨ret_bool HD.out.symm, HB.out _⟩

end Go.Proofs.YtckmppkdpnhodaaGreatDoor
