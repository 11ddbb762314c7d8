/-
  heap.down: an item goes down till none of its children is due ahead of it. The queue's Push; heap.Push. heap.Push.
-/
import Derived.Test.YtckmppkdpnhodaaGreatDoorT06
import Derived.Deep.RegionLaw
namespace Go.Proofs.YtckmppkdpnhodaaGreatDoor
set_option linter.unusedVariables false
set_option linter.unusedSimpArgs false
open Go.RowKit Go.Proofs

attribute [local go_sem ↓] Go.wp_at_zero Go.wp_at_succ

theorem child {c m : Nat} (h0 : 0 < c) (h : (c - 1) / 2 = m) : c = 2 * m + 1 ∨ c = 2 * m + 2 := by omega

theorem swapL_far {its : List It} {i j t : Nat} (hi : i < its.length) (hj : j < its.length) (h1 : t ≠ i) (h2 : t ≠ j) : (swapL its i j)[t]? = its[t]? := by
  rw [swapL_get hi hj, if_neg h2, if_neg h1]

set_option maxRecDepth 100000 in
set_option maxHeartbeats 8000000 in
theorem downG (rb g cap i0 n : Nat) (its : List It) (hn0 : n ≤ its.length) (h0n : i0 ≤ n) (hn : its.length ≤ 1000) (cur : Array Value) (w : World) (h11 : w.cell? ⟨rb, 11, none⟩ = some (.slice (some ⟨g, 0, none⟩) its.length cap)) (hq : QRow w g cap its cur) (hne : g ≠ rb) (hI : DnInv i0 n i0 (kF its)) :
    Calls Tryz.prog 149 #[.iface 175 (.pointer (some ⟨rb, 11, none⟩)), .int .i64 (i0 : Int), .int .i64 (n : Int)] w fun e w' => (∃ b, e = .returned (.bool b)) ∧ ∃ its' cur', Turn w g cap its cur its' cur' w' ∧ HeapFrom i0 n (kF its') ∧ ∀ t, n ≤ t → its'[t]? = its[t]? := by
  have H11 : Hid (w.cell? ⟨rb, 11, none⟩ = some (.slice (some ⟨g, 0, none⟩) its.length cap)) := h11
  have HT0 : Hid (Turn w g cap its cur its cur w) := Turn.refl hq
  have HI0 : Hid (DnInv i0 n i0 (kF its)) := hI
  clear h11 hq hI
  go_enter Tryz.func149, Tryz.ntmps149
  go_wp2
  go_loopw [7] (fun v wr => ∃ m : Nat, v = .int .i64 m ∧ m ≤ n ∧ ∃ its' cur', Hid (Turn w g cap its cur its' cur' wr ∧ DnInv i0 n m (kF its') ∧ ∀ t, n ≤ t → its'[t]? = its[t]?)) (fun v _ => n - (intOf v).toNat)
  case atStart => exact ⟨i0, rfl, h0n, its, cur, HT0.out, HI0.out, fun _ _ => rfl⟩
  case round =>
    obtain ⟨m, rfl, hm, its', cur', HT⟩ := hrel
    have hlen := HT.out.1.len
    have hc11 := HT.out.1.cell11 H11.out hne
    have hmL := meth_Less rb wr _ _ _ hc11
    by_cases hA : n ≤ 2 * m + 1
    · have HE : Hid (HeapFrom i0 n (kF its')) := HT.out.2.1.done (fun c c0 hc hp => by rcases child c0 hp with h | h <;> omega)
      have e1 : (n : Int) ≤ 2 * (m : Int) + 1 := by omega
      go_wp2
      all_goals
        go_ret
        exact ⟨⟨_, rfl⟩, its', cur', HT.out.1, HE.out, HT.out.2.2⟩
    · have e1 : ¬ (n : Int) ≤ 2 * (m : Int) + 1 := by omega
      have e2 : ¬ 2 * (m : Int) + 1 < 0 := by omega
      have HL : Hid (∀ (a b : Nat) (ia ib : Int) (W : World), ia = (a : Int) → ib = (b : Int) → a < n → b < n → Below wr.heap.size wr W → Calls Tryz.prog 232 #[.slice (some ⟨g, 0, none⟩) its.length cap, .int .i64 ia, .int .i64 ib] W fun e w' => e = .returned (.bool (decide (kF its' a < kF its' b))) ∧ Below W.heap.size W w') := fun a b ia ib W ha hb han hbn hW => by
        subst ha hb
        have ka : kF its' a = (its'[a]'(by omega)).due := kF_get (by omega)
        have kb : kF its' b = (its'[b]'(by omega)).due := kF_get (by omega)
        rw [ka, kb]
        have hr := HT.out.1.row.below hW
        exact lessG g its.length cap a b _ _ (by omega) (by omega) hn W (by have := hr.cell (i := a) (o := 0) (by omega) (by omega) rfl; simpa using this) (by have := hr.cell (i := b) (o := 0) (by omega) (by omega) rfl; simpa using this)
      have HS : Hid (∀ (j : Nat) (ij : Int) (W : World), ij = (j : Int) → m < j → j < n → (j - 1) / 2 = m → (∀ c, 0 < c → c < n → (c - 1) / 2 = m → kF its' j ≤ kF its' c) → kF its' j < kF its' m → Below wr.heap.size wr W → W.cell? ⟨rb, 11, none⟩ = some (.slice (some ⟨g, 0, none⟩) its.length cap) ∧ Calls Tryz.prog 233 #[.slice (some ⟨g, 0, none⟩) its.length cap, .int .i64 (m : Int), .int .i64 ij] W fun e w' => e = .returned (.tuple #[]) ∧ ∃ its'' cur'', Turn w g cap its cur its'' cur'' w' ∧ DnInv i0 n j (kF its'') ∧ ∀ t, n ≤ t → its''[t]? = its[t]?) := fun j ij W hij hmj hjn hpj hmin hlt hW => by
        subst hij
        have ht := HT.out.1.below hW
        have hi1 : m < its'.length := by omega
        have hi2 : j < its'.length := by omega
        refine ⟨ht.cell11 H11.out hne, ?_⟩
        have := swapG g cap m j its' hi1 hi2 (by omega) cur' W ht.row
        rw [hlen] at this
        refine this.mono ?_
        rintro e w' ⟨he, q, rfl⟩
        obtain ⟨c, hc⟩ := ht.swap hi1 hi2 q
        refine ⟨he, _, c, hc, ?_, fun t htn => (swapL_far hi1 hi2 (by omega) (by omega)).trans (HT.out.2.2 t htn)⟩
        rw [kF_swap hi1 hi2]
        exact HT.out.2.1.step hpj (by omega) hjn hmin hlt
      have HM : Hid (∀ W, Below wr.heap.size wr W → (method 409 175 (.pointer (some ⟨rb, 11, none⟩)) "Less").run Tryz.prog W = .ok (232, .slice (some ⟨g, 0, none⟩) its.length cap) W) := fun W hW => meth_Less rb W _ _ _ ((HT.out.1.below hW).cell11 H11.out hne)
      have HD : Hid (∀ W, Below wr.heap.size wr W → (∀ c, 0 < c → c < n → (c - 1) / 2 = m → kF its' m ≤ kF its' c) → ∃ its'' cur'', Turn w g cap its cur its'' cur'' W ∧ HeapFrom i0 n (kF its'') ∧ ∀ t, n ≤ t → its''[t]? = its[t]?) := fun W hW h => ⟨its', cur', HT.out.1.below hW, HT.out.2.1.done h, HT.out.2.2⟩
      by_cases hB : 2 * m + 2 < n
      · have e3 : 2 * (m : Int) + 1 + 1 < (n : Int) := by omega
        by_cases hk : kF its' (2 * m + 2) < kF its' (2 * m + 1)
        · skip
          have L1 : Hid (Calls Tryz.prog 232 #[.slice (some ⟨g, 0, none⟩) its.length cap, .int .i64 (2 * (m : Int) + 1 + 1), .int .i64 (2 * (m : Int) + 1)] wr fun e w' => e = .returned (.bool true) ∧ Below wr.heap.size wr w') := by
            have := HL.out (2 * m + 2) (2 * m + 1) (2 * (m : Int) + 1 + 1) (2 * (m : Int) + 1) wr (by omega) (by omega) (by omega) (by omega) (Below.refl _ _)
            rw [decide_eq_true hk] at this
            exact this
          have hmin : ∀ c, 0 < c → c < n → (c - 1) / 2 = m → kF its' (2 * m + 2) ≤ kF its' c := fun c c0 hc hp => by
            rcases child c0 hp with h | h
            · subst h; omega
            · subst h; exact Nat.le_refl _
          by_cases hl : kF its' (2 * m + 2) < kF its' m
          · have L2 : Hid (∀ W, Below wr.heap.size wr W → Calls Tryz.prog 232 #[.slice (some ⟨g, 0, none⟩) its.length cap, .int .i64 (2 * (m : Int) + 1 + 1), .int .i64 (m : Int)] W fun e w' => e = .returned (.bool true) ∧ Below W.heap.size W w') := fun W hW => by
              have := HL.out (2 * m + 2) m (2 * (m : Int) + 1 + 1) (m : Int) W (by omega) rfl (by omega) (by omega) hW
              rw [decide_eq_true hl] at this
              exact this
            have S2 : Hid _ := fun W hW => HS.out (2 * m + 2) (2 * (m : Int) + 1 + 1) W (by omega) (by omega) (by omega) (by omega) hmin hl hW
            clear hl hmin hk
            go_wp2_with (first
              | (go_at_call_of 232 (Value.int .i64 (m : Int)); refine Calls.mono L22.out ?_; rintro e w2 ⟨rfl, hb2⟩; have hw2 : Below wr.heap.size wr w2 := hb1.trans (hb2.mono hb1.size); obtain ⟨hc2, hS2⟩ := S2.out w2 hw2; have hmS := meth_Swap rb w2 _ _ _ hc2; have HS2 : Hid _ := hS2; clear hS2)
              | (go_at_call 232; refine Calls.mono L1.out ?_; rintro e w1 ⟨rfl, hb1⟩; have hm1 := HM.out w1 hb1; have L22 : Hid _ := L2.out w1 hb1)
              | (go_at_call 233; refine Calls.mono HS2.out ?_; rintro e w3 ⟨rfl, its3, cur3, hT3, hU3, hV3⟩))
            go_roundw
            case rel => exact ⟨2 * m + 2, by go_num, by omega, its3, cur3, hT3, hU3, hV3⟩
            case measure => simp [intOf]; omega
          · have L2 : Hid (∀ W, Below wr.heap.size wr W → Calls Tryz.prog 232 #[.slice (some ⟨g, 0, none⟩) its.length cap, .int .i64 (2 * (m : Int) + 1 + 1), .int .i64 (m : Int)] W fun e w' => e = .returned (.bool false) ∧ Below W.heap.size W w') := fun W hW => by
              have := HL.out (2 * m + 2) m (2 * (m : Int) + 1 + 1) (m : Int) W (by omega) rfl (by omega) (by omega) hW
              rw [decide_eq_false hl] at this
              exact this
            have D2 : Hid _ := fun W hW => HD.out W hW (fun c c0 hc hp => by have := hmin c c0 hc hp; omega)
            clear hl hmin hk
            go_wp2_with (first
              | (go_at_call_of 232 (Value.int .i64 (m : Int)); refine Calls.mono L22.out ?_; rintro e w2 ⟨rfl, hb2⟩; have hw2 : Below wr.heap.size wr w2 := hb1.trans (hb2.mono hb1.size))
              | (go_at_call 232; refine Calls.mono L1.out ?_; rintro e w1 ⟨rfl, hb1⟩; have hm1 := HM.out w1 hb1; have L22 : Hid _ := L2.out w1 hb1))
            go_ret
            exact ⟨⟨_, rfl⟩, D2.out w2 hw2⟩
        · skip
          have L1 : Hid (Calls Tryz.prog 232 #[.slice (some ⟨g, 0, none⟩) its.length cap, .int .i64 (2 * (m : Int) + 1 + 1), .int .i64 (2 * (m : Int) + 1)] wr fun e w' => e = .returned (.bool false) ∧ Below wr.heap.size wr w') := by
            have := HL.out (2 * m + 2) (2 * m + 1) (2 * (m : Int) + 1 + 1) (2 * (m : Int) + 1) wr (by omega) (by omega) (by omega) (by omega) (Below.refl _ _)
            rw [decide_eq_false hk] at this
            exact this
          have hmin : ∀ c, 0 < c → c < n → (c - 1) / 2 = m → kF its' (2 * m + 1) ≤ kF its' c := fun c c0 hc hp => by
            rcases child c0 hp with h | h
            · subst h; exact Nat.le_refl _
            · subst h; omega
          by_cases hl : kF its' (2 * m + 1) < kF its' m
          · have L2 : Hid (∀ W, Below wr.heap.size wr W → Calls Tryz.prog 232 #[.slice (some ⟨g, 0, none⟩) its.length cap, .int .i64 (2 * (m : Int) + 1), .int .i64 (m : Int)] W fun e w' => e = .returned (.bool true) ∧ Below W.heap.size W w') := fun W hW => by
              have := HL.out (2 * m + 1) m (2 * (m : Int) + 1) (m : Int) W (by omega) rfl (by omega) (by omega) hW
              rw [decide_eq_true hl] at this
              exact this
            have S2 : Hid _ := fun W hW => HS.out (2 * m + 1) (2 * (m : Int) + 1) W (by omega) (by omega) (by omega) (by omega) hmin hl hW
            clear hl hmin hk
            go_wp2_with (first
              | (go_at_call_of 232 (Value.int .i64 (m : Int)); refine Calls.mono L22.out ?_; rintro e w2 ⟨rfl, hb2⟩; have hw2 : Below wr.heap.size wr w2 := hb1.trans (hb2.mono hb1.size); obtain ⟨hc2, hS2⟩ := S2.out w2 hw2; have hmS := meth_Swap rb w2 _ _ _ hc2; have HS2 : Hid _ := hS2; clear hS2)
              | (go_at_call 232; refine Calls.mono L1.out ?_; rintro e w1 ⟨rfl, hb1⟩; have hm1 := HM.out w1 hb1; have L22 : Hid _ := L2.out w1 hb1)
              | (go_at_call 233; refine Calls.mono HS2.out ?_; rintro e w3 ⟨rfl, its3, cur3, hT3, hU3, hV3⟩))
            go_roundw
            case rel => exact ⟨2 * m + 1, by go_num, by omega, its3, cur3, hT3, hU3, hV3⟩
            case measure => simp [intOf]; omega
          · have L2 : Hid (∀ W, Below wr.heap.size wr W → Calls Tryz.prog 232 #[.slice (some ⟨g, 0, none⟩) its.length cap, .int .i64 (2 * (m : Int) + 1), .int .i64 (m : Int)] W fun e w' => e = .returned (.bool false) ∧ Below W.heap.size W w') := fun W hW => by
              have := HL.out (2 * m + 1) m (2 * (m : Int) + 1) (m : Int) W (by omega) rfl (by omega) (by omega) hW
              rw [decide_eq_false hl] at this
              exact this
            have D2 : Hid _ := fun W hW => HD.out W hW (fun c c0 hc hp => by have := hmin c c0 hc hp; omega)
            clear hl hmin hk
            go_wp2_with (first
              | (go_at_call_of 232 (Value.int .i64 (m : Int)); refine Calls.mono L22.out ?_; rintro e w2 ⟨rfl, hb2⟩; have hw2 : Below wr.heap.size wr w2 := hb1.trans (hb2.mono hb1.size))
              | (go_at_call 232; refine Calls.mono L1.out ?_; rintro e w1 ⟨rfl, hb1⟩; have hm1 := HM.out w1 hb1; have L22 : Hid _ := L2.out w1 hb1))
            go_ret
            exact ⟨⟨_, rfl⟩, D2.out w2 hw2⟩
      · have e3 : ¬ 2 * (m : Int) + 1 + 1 < (n : Int) := by omega
        have e4 : decide (2 * (m : Int) + 1 + 1 < (n : Int)) = false := decide_eq_false e3
        have hmin : ∀ c, 0 < c → c < n → (c - 1) / 2 = m → kF its' (2 * m + 1) ≤ kF its' c := fun c c0 hc hp => by
          rcases child c0 hp with h | h
          · subst h; exact Nat.le_refl _
          · subst h; omega
        by_cases hl : kF its' (2 * m + 1) < kF its' m
        · have L2 : Hid (∀ W, Below wr.heap.size wr W → Calls Tryz.prog 232 #[.slice (some ⟨g, 0, none⟩) its.length cap, .int .i64 (2 * (m : Int) + 1), .int .i64 (m : Int)] W fun e w' => e = .returned (.bool true) ∧ Below W.heap.size W w') := fun W hW => by
            have := HL.out (2 * m + 1) m (2 * (m : Int) + 1) (m : Int) W (by omega) rfl (by omega) (by omega) hW
            rw [decide_eq_true hl] at this
            exact this
          have S2 : Hid _ := fun W hW => HS.out (2 * m + 1) (2 * (m : Int) + 1) W (by omega) (by omega) (by omega) (by omega) hmin hl hW
          clear hl hmin
          go_wp2_with (first
            | (go_at_call 232; refine Calls.mono (L2.out _ (Below.refl _ _)) ?_; rintro e w2 ⟨rfl, hb2⟩; have hw2 : Below wr.heap.size wr w2 := hb2; obtain ⟨hc2, hS2⟩ := S2.out w2 hw2; have hmS := meth_Swap rb w2 _ _ _ hc2; have HS2 : Hid _ := hS2; clear hS2)
            | (go_at_call 233; refine Calls.mono HS2.out ?_; rintro e w3 ⟨rfl, its3, cur3, hT3, hU3, hV3⟩))
          go_roundw
          case rel => exact ⟨2 * m + 1, by go_num, by omega, its3, cur3, hT3, hU3, hV3⟩
          case measure => simp [intOf]; omega
        · have L2 : Hid (∀ W, Below wr.heap.size wr W → Calls Tryz.prog 232 #[.slice (some ⟨g, 0, none⟩) its.length cap, .int .i64 (2 * (m : Int) + 1), .int .i64 (m : Int)] W fun e w' => e = .returned (.bool false) ∧ Below W.heap.size W w') := fun W hW => by
            have := HL.out (2 * m + 1) m (2 * (m : Int) + 1) (m : Int) W (by omega) rfl (by omega) (by omega) hW
            rw [decide_eq_false hl] at this
            exact this
          have D2 : Hid _ := fun W hW => HD.out W hW (fun c c0 hc hp => by have := hmin c c0 hc hp; omega)
          clear hl hmin
          go_wp2_with (first
            | (go_at_call 232; refine Calls.mono (L2.out _ (Below.refl _ _)) ?_; rintro e w2 ⟨rfl, hb2⟩; have hw2 : Below wr.heap.size wr w2 := hb2))
          go_ret
          exact ⟨⟨_, rfl⟩, D2.out w2 hw2⟩

end Go.Proofs.YtckmppkdpnhodaaGreatDoor

namespace Go.Proofs.YtckmppkdpnhodaaGreatDoor
set_option linter.unusedVariables false
set_option linter.unusedSimpArgs false
open Go.RowKit Go.Proofs

attribute [local go_sem ↓] Go.wp_at_zero Go.wp_at_succ

set_option maxRecDepth 100000 in
set_option maxHeartbeats 8000000 in
theorem qpushG (rb : Nat) (its : List It) (hl : its.length ≤ 1000) (x : It) (wv : Value) (C : Array Value) (T : TypeId) (w : World) (hrb : w.heap[rb]? = some (.cells C T (0, 0))) (h11 : C[11]? = some wv)
    (hrow : w.ownsRow 0 171 12 wv its.length (itRow its)) (hne : wv.ownBlock ≠ some rb) :
    Calls Tryz.prog 235 #[.pointer (some ⟨rb, 11, none⟩), .iface 171 (.agg #[.int .i64 (x.due : Int), .int .i64 (x.to : Int), .int .i64 (x.en.org : Int), .int .i64 (x.en.seq : Int), .int .i64 (x.en.ah.a : Int), .int .i64 (x.en.ah.b : Int), .int .i64 (x.en.ah.c : Int), .int .i64 (x.en.ah.d : Int), .int .i64 (x.en.ah.e : Int), .int .i64 (x.en.c.k.num : Int), .string x.en.c.word, .int .i64 (x.en.c.count : Int)])] w fun e w' =>
      e = .returned (.tuple #[]) ∧ ∃ g cap, w'.ownsRow 0 171 12 (.slice (some ⟨g, 0, none⟩) (its.length + 1) cap) (its.length + 1) (itRow (its ++ [x])) ∧ (wv.ownBlock = some g ∨ w.heap.size ≤ g) ∧ g ≠ rb ∧
        w'.heap[rb]? = some (.cells (C.setIfInBounds 11 (.slice (some ⟨g, 0, none⟩) (its.length + 1) cap)) T (0, 0)) ∧ Upd [some rb, wv.ownBlock] w w' := by
  obtain ⟨pe, cape, hev⟩ : ∃ p c, wv = .slice p its.length c := by
    rcases hrow.2 with ⟨h1, h0⟩ | ⟨g, cap', _, h1, _⟩
    · rw [h0]; exact ⟨_, _, h1⟩
    · exact ⟨_, _, h1⟩
  obtain ⟨i3, hi3, hy0, hy1, hy2⟩ := info_parts Tryz.info_item
  have hrl : rb < w.heap.size := (Array.getElem?_eq_some_iff.1 hrb).1
  have c4 : w.cell? ⟨rb, 11, none⟩ = some (.slice pe its.length cape) := by rw [cell_of_heap hrb, h11, hev]
  have fz : w.frozen? ⟨rb, 11, none⟩ = false := frozen_of_heap hrb _
  have HE : Hid (wv = .slice pe its.length cape) := hev
  have HRB : Hid (w.heap[rb]? = some (.cells C T (0, 0))) := hrb
  have HL : Hid (itRow (its ++ [x]) = itRow its ++ [.int .i64 (x.due : Int), .int .i64 (x.to : Int), .int .i64 (x.en.org : Int), .int .i64 (x.en.seq : Int), .int .i64 (x.en.ah.a : Int), .int .i64 (x.en.ah.b : Int), .int .i64 (x.en.ah.c : Int), .int .i64 (x.en.ah.d : Int), .int .i64 (x.en.ah.e : Int), .int .i64 (x.en.c.k.num : Int), .string x.en.c.word, .int .i64 (x.en.c.count : Int)]) := by
    exact itRow_snoc its x
  rw [hev] at hrow hne
  have HR : Hid (w.ownsRow 0 171 12 (.slice pe its.length cape) its.length (itRow its)) := hrow
  clear hrow hev hrb h11
  generalize hL : its.length = L at *
  generalize (x.due : Int) = p0 at *
  generalize (x.to : Int) = p1 at *
  generalize (x.en.org : Int) = p2 at *
  generalize (x.en.seq : Int) = p3 at *
  generalize (x.en.ah.a : Int) = p4 at *
  generalize (x.en.ah.b : Int) = p5 at *
  generalize (x.en.ah.c : Int) = p6 at *
  generalize (x.en.ah.d : Int) = p7 at *
  generalize (x.en.ah.e : Int) = p8 at *
  generalize (x.en.c.k.num : Int) = p9 at *
  generalize x.en.c.word = ps at *
  generalize (x.en.c.count : Int) = p11 at *
  have hta : ∀ v W, (Instr.typeAssert (.iface 171 v) 20 171 false).run Tryz.prog W = .ok v W := fun v W => by kernel_rfl
  go_enter Tryz.func235, Tryz.ntmps235
  generalize hb0 : w.heap.size = b0 at *
  have k4 : ∀ o, (w.alloc o).cell? ⟨rb, 11, none⟩ = some (.slice pe L cape) := fun o => (World.cell?_of_block (a := ⟨rb, 11, none⟩) (Below.heap_alloc w o rb (by omega))).trans c4
  have kf : ∀ o, (w.alloc o).frozen? ⟨rb, 11, none⟩ = false := fun o => (World.frozen?_of_block (a := ⟨rb, 11, none⟩) (Below.heap_alloc w o rb (by omega))).trans fz
  go_upto_region 0 with fail
  go_region_law
    ((refine step_append_lies _ (by rfl) _ _ _ (by rfl) 0 171 i3 _ 12 104 Tryz.underlying108 hi3 hy0 hy1 hy2 rfl (by omega) (.slice pe L cape) L (itRow its) (by rfl) (Upd.owns (S := []) (Upd.drew (Upd.alloc (Upd.refl _ _) _)) HR.out (by simp))
        ⟨b0, 0, none⟩ 1 1 [.int .i64 p0, .int .i64 p1, .int .i64 p2, .int .i64 p3, .int .i64 p4, .int .i64 p5, .int .i64 p6, .int .i64 p7, .int .i64 p8, .int .i64 p9, .string ps, .int .i64 p11] (by rfl) (by rfl) (World.news_of_block (cs := #[.int .i64 p0, .int .i64 p1, .int .i64 p2, .int .i64 p3, .int .i64 p4, .int .i64 p5, .int .i64 p6, .int .i64 p7, .int .i64 p8, .int .i64 p9, .string ps, .int .i64 p11]) (t := 171) (fr := (0, 0)) (by rw [← hb0]; exact heap_alloc_new w _)) (by simp [Value.oneCell'])
        (by omega) (by unfold maxLen; omega) (by omega) (by first | (simp; done) | (simp; omega)) (b0 + 1) (by simp [hb0]) ?_; intro g5 cap5 w5 hown5 hgrow hat5 hlt5; have s2 : w5.cell? ⟨rb, 11, none⟩ = some (.slice pe L cape) := (hgrow.cell_far ⟨rb, 11, none⟩ (by first | (simp; done) | (simp; omega)) (Ne.symm hne)).trans (k4 _); have sf : w5.frozen? ⟨rb, 11, none⟩ = false := (hgrow.frozen_far ⟨rb, 11, none⟩ (by first | (simp; done) | (simp; omega)) (Ne.symm hne)).trans (kf _)))
  all_goals
    have u5 : Upd [(Value.slice pe L cape).ownBlock] w w5 := (((Upd.refl _ w).alloc _).drew).grown hgrow fun b hb => .inl (by simp [hb])
    have hg5 : g5 ≠ rb := by
      rcases hat5 with h | h
      · intro e; exact hne (e ▸ h)
      · omega
    have hr5 : w5.heap[rb]? = some (.cells C T (0, 0)) := (u5.block rb (by omega) (by simpa using Ne.symm hne)).trans HRB.out
    go_end0
    refine ⟨rfl, g5, cap5, ?_, ?_, hg5, heap_setCell_same hr5 _, ?_⟩
    · rw [HL.out]; exact owns_setCell_other hown5 (fun b hb => by cases hb; exact hg5) _
    · rw [HE.out]
      rcases hat5 with h | h
      · exact .inl h
      · exact .inr (by omega)
    · rw [HE.out]
      exact (u5.mono fun i hi => List.mem_cons_of_mem _ hi).setCell (.inl (by simp)) _

end Go.Proofs.YtckmppkdpnhodaaGreatDoor

namespace Go.Proofs.YtckmppkdpnhodaaGreatDoor
set_option linter.unusedVariables false
set_option linter.unusedSimpArgs false
open Go.RowKit Go.Proofs

attribute [local go_sem ↓] Go.wp_at_zero Go.wp_at_succ

/-- An item as a value. -/
def It.val (x : It) : Value :=
  .agg #[.int .i64 (x.due : Int), .int .i64 (x.to : Int), .int .i64 (x.en.org : Int), .int .i64 (x.en.seq : Int), .int .i64 (x.en.ah.a : Int), .int .i64 (x.en.ah.b : Int), .int .i64 (x.en.ah.c : Int), .int .i64 (x.en.ah.d : Int), .int .i64 (x.en.ah.e : Int), .int .i64 (x.en.c.k.num : Int), .string x.en.c.word, .int .i64 (x.en.c.count : Int)]

theorem kF_append (its : List It) (x : It) {t : Nat} (h : t < its.length) : kF (its ++ [x]) t = kF its t := by
  unfold kF
  rw [List.getElem?_append_left h]

theorem HeapFrom.congr {lo n : Nat} {k k' : Nat → Nat} (h : HeapFrom lo n k) (he : ∀ t, t < n → k' t = k t) : HeapFrom lo n k' := fun c h0 hc hp => by
  rw [he c hc, he _ (by omega)]; exact h c h0 hc hp

/-- The queue in the box at rb: its row lies in a block of its own. -/
structure QAt (w : World) (rb : Nat) (C : Array Value) (T : TypeId) (wv : Value) (its : List It) : Prop where
  rbk : w.heap[rb]? = some (.cells C T (0, 0))
  c11 : C[11]? = some wv
  row : w.ownsRow 0 171 12 wv its.length (itRow its)
  ne : wv.ownBlock ≠ some rb

theorem QAt.below {w w' : World} {rb : Nat} {C : Array Value} {T : TypeId} {wv : Value} {its : List It} (h : QAt w rb C T wv its) (hb : Below w.heap.size w w') : QAt w' rb C T wv its :=
  ⟨(hb.block rb (Array.getElem?_eq_some_iff.1 h.rbk).1).trans h.rbk, h.c11, (Upd.of_below (S := []) hb).owns h.row (by simp), h.ne⟩

theorem qrow_of_own {w : World} {B g n cap : Nat} {its : List It} (hn : n = its.length) (h : w.ownsRow B 171 12 (.slice (some ⟨g, 0, none⟩) n cap) n (itRow its)) : ∃ cur, QRow w g cap its cur ∧ cur.size = cap * 12 ∧ cap ≤ maxLen ∧ B ≤ g := by
  subst hn
  rcases h.2 with ⟨h1, -⟩ | ⟨g', cap', cur, h1, hb, hg, hl, hm, hs, ht⟩
  · cases h1
  · cases h1
    exact ⟨cur, ⟨hg, hl, by omega, ht⟩, hs, hm, hb⟩

theorem own_of_qrow {w : World} {B g cap : Nat} {its : List It} {cur : Array Value} (h : QRow w g cap its cur) (hs : cur.size = cap * 12) (hm : cap ≤ maxLen) (hB : B ≤ g) : w.ownsRow B 171 12 (.slice (some ⟨g, 0, none⟩) its.length cap) its.length (itRow its) :=
  ⟨itRow_length its, .inr ⟨g, cap, cur, rfl, hB, h.blk, h.le, hm, hs, h.row⟩⟩

/-- What a push or a pop leaves: the row anew, the box's cell for it, all else as it was. -/
structure QTo (w : World) (rb : Nat) (C : Array Value) (T : TypeId) (wv : Value) (its' : List It) (g cap : Nat) (W : World) : Prop where
  row : W.ownsRow 0 171 12 (.slice (some ⟨g, 0, none⟩) its'.length cap) its'.length (itRow its')
  own : wv.ownBlock = some g ∨ w.heap.size ≤ g
  ne : g ≠ rb
  rbk : W.heap[rb]? = some (.cells (C.setIfInBounds 11 (.slice (some ⟨g, 0, none⟩) its'.length cap)) T (0, 0))
  upd : Upd [some rb, wv.ownBlock] w W

theorem QTo.at {w : World} {rb : Nat} {C : Array Value} {T : TypeId} {wv : Value} {its' : List It} {g cap : Nat} {W : World} (h : QTo w rb C T wv its' g cap W) (hC : 11 < C.size) : QAt W rb (C.setIfInBounds 11 (.slice (some ⟨g, 0, none⟩) its'.length cap)) T (.slice (some ⟨g, 0, none⟩) its'.length cap) its' :=
  ⟨h.rbk, Array.getElem?_setIfInBounds_self_of_lt hC, h.row, fun e => h.ne (by cases e; rfl)⟩

/-- The row has turned in place. -/
theorem QTo.turn {w : World} {rb : Nat} {C : Array Value} {T : TypeId} {wv : Value} {its its' : List It} {g cap : Nat} {W W' : World} {cur cur' : Array Value} (h : QTo w rb C T wv its g cap W) (hr : QRow W g cap its cur) (hs : cur.size = cap * 12) (hm : cap ≤ maxLen) (ht : Turn W g cap its cur its' cur' W') : QTo w rb C T wv its' g cap W' := by
  have hrl := (Array.getElem?_eq_some_iff.1 h.rbk).1
  refine ⟨own_of_qrow ht.row (ht.csz.trans hs) hm (Nat.zero_le _), h.own, h.ne, ?_, h.upd.trans ht.upd (fun i hi => ?_)⟩
  · rw [ht.len]
    exact (ht.upd.block rb hrl (by simp; exact fun e => h.ne e.symm)).trans h.rbk
  · simp only [List.mem_singleton, Option.some.injEq] at hi
    subst hi
    rcases h.own with e | e
    · exact .inl (by simp [e])
    · exact .inr e

set_option maxRecDepth 100000 in
set_option maxHeartbeats 4000000 in
theorem pushG (rb : Nat) (its : List It) (hl : its.length < 1000) (x : It) (wv : Value) (C : Array Value) (T : TypeId) (w : World) (hq : QAt w rb C T wv its) (hh : HeapFrom 0 its.length (kF its)) :
    Calls Tryz.prog 89 #[.iface 175 (.pointer (some ⟨rb, 11, none⟩)), .iface 171 x.val] w fun e w' =>
      e = .returned (.tuple #[]) ∧ ∃ its' g cap, QTo w rb C T wv its' g cap w' ∧ its'.Perm (its ++ [x]) ∧ HeapFrom 0 its'.length (kF its') := by
  have hC : 11 < C.size := (Array.getElem?_eq_some_iff.1 hq.c11).1
  have hlen : (its ++ [x]).length = its.length + 1 := by simp
  have HP : Hid (Calls Tryz.prog 235 #[.pointer (some ⟨rb, 11, none⟩), .iface 171 (.agg #[.int .i64 (x.due : Int), .int .i64 (x.to : Int), .int .i64 (x.en.org : Int), .int .i64 (x.en.seq : Int), .int .i64 (x.en.ah.a : Int), .int .i64 (x.en.ah.b : Int), .int .i64 (x.en.ah.c : Int), .int .i64 (x.en.ah.d : Int), .int .i64 (x.en.ah.e : Int), .int .i64 (x.en.c.k.num : Int), .string x.en.c.word, .int .i64 (x.en.c.count : Int)])] w fun e w' =>
      e = .returned (.tuple #[]) ∧ ∃ g cap, w'.cell? ⟨rb, 11, none⟩ = some (.slice (some ⟨g, 0, none⟩) (its.length + 1) cap) ∧ Hid (QTo w rb C T wv (its ++ [x]) g cap w')) := by
    refine (qpushG rb its (by omega) x wv C T w hq.rbk hq.c11 hq.row hq.ne).mono ?_
    rintro e w' ⟨he, g, cap, o1, o2, o3, o4, o5⟩
    refine ⟨he, g, cap, by rw [cell_of_heap o4, Array.getElem?_setIfInBounds_self_of_lt hC], ?_⟩
    exact ⟨by rw [hlen]; exact o1, o2, o3, by rw [hlen]; exact o4, o5⟩
  have HU : Hid (∀ g cap W, Hid (QTo w rb C T wv (its ++ [x]) g cap W) → Calls Tryz.prog 128 #[.iface 175 (.pointer (some ⟨rb, 11, none⟩)), .int .i64 (its.length : Int)] W fun e w' => e = .returned (.tuple #[]) ∧ ∃ its' g cap, QTo w rb C T wv its' g cap w' ∧ its'.Perm (its ++ [x]) ∧ HeapFrom 0 its'.length (kF its')) := fun g cap W hW => by
    obtain ⟨cur, hr, hs, hm, -⟩ := qrow_of_own rfl hW.out.row
    have hc := (hW.out.at hC)
    refine (upG rb g cap its.length (its ++ [x]) (by simp) (by simp; omega) cur W (by rw [cell_of_heap hc.rbk]; exact hc.c11) hr hW.out.ne ?_).mono ?_
    · rw [hlen]
      exact UpInv.start (hh.congr fun t ht => kF_append its x ht)
    · rintro e w' ⟨he, its', cur', ht, hp⟩
      refine ⟨he, its', g, cap, hW.out.turn hr hs hm ht, ht.perm, ?_⟩
      rw [ht.len]; exact hp
  have hmP := fun W => meth_Push rb W
  have HML : Hid (∀ W a n c, W.cell? ⟨rb, 11, none⟩ = some (.slice a n c) → (method 409 175 (.pointer (some ⟨rb, 11, none⟩)) "Len").run Tryz.prog W = .ok (231, .slice a n c) W) := fun W a n c h => meth_Len rb W a n c h
  clear hq hh hlen
  simp only [It.val]
  generalize hL : its.length = L at *
  go_enter Tryz.func89, Tryz.ntmps89
  go_wp2_with (first
    | (go_at_call 235; refine HP.out.mono ?_; rintro e w1 ⟨rfl, g, cap, p1, p2⟩; have p3 := HML.out w1 _ _ _ p1)
    | (go_at_call 231; refine (len_any _ _ _ _).mono ?_; rintro e w' ⟨rfl, rfl⟩)
    | (go_at_call 128; refine Calls.mono (HU.out g cap _ p2) ?_; rintro e w2 ⟨rfl, its', g', cap', o⟩))
  go_end0
  exact ⟨rfl, its', g', cap', o⟩

end Go.Proofs.YtckmppkdpnhodaaGreatDoor
