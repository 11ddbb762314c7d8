/-
  What waits in the box: a list of (to, which entry). Contracts of slices.Max, (*Box).Open. Contracts of (*Log).put, (*Log).Do.
-/
import Derived.Test.YtckmppkdpnhodaaGreatDoorT22
import Derived.Test.YtckmppkdpnhodaaGreatDoorT26
import Derived.Deep.RegionLaw
namespace Go.Proofs.YtckmppkdpnhodaaGreatDoor
set_option linter.unusedVariables false
set_option linter.unusedSimpArgs false
open Go.RowKit Go.Proofs

attribute [local go_sem ↓] Go.wp_at_zero Go.wp_at_succ

def boxItems (n me L : Nat) : List (Nat × Nat) := (List.range L).flatMap fun i => (others n me).map fun t => (t, i)
def itemCells (me : Nat) (log : List Cm) (p : Nat × Nat) : List Value := [.int .i64 0, .int .i64 (p.1 : Int)] ++ entCells me p.2 (log[p.2]?.getD cm0)
def boxC (me : Nat) (log : List Cm) (its : List (Nat × Nat)) : List Value := its.flatMap (itemCells me log)

theorem boxCells_eq (n me : Nat) (log : List Cm) : boxCells n me log = boxC me log (boxItems n me log.length) := by
  unfold boxCells boxC boxItems
  rw [List.flatMap_assoc]
  simp only [List.flatMap_map]
  rfl

theorem others_length {n me : Nat} (hn : 2 ≤ n ∧ n ≤ 5) (hme : me < n) : (others n me).length = n - 1 := by
  rcases (show n = 2 ∨ n = 3 ∨ n = 4 ∨ n = 5 by omega) with rfl | rfl | rfl | rfl <;> rcases (show me = 0 ∨ me = 1 ∨ me = 2 ∨ me = 3 ∨ me = 4 by omega) with rfl | rfl | rfl | rfl | rfl <;> first | decide | omega

theorem boxItems_succ (n me L : Nat) : boxItems n me (L + 1) = boxItems n me L ++ (others n me).map fun t => (t, L) := by
  simp [boxItems, List.range_succ, List.flatMap_append]

theorem boxItems_length {n me : Nat} (hn : 2 ≤ n ∧ n ≤ 5) (hme : me < n) (L : Nat) : (boxItems n me L).length = L * (n - 1) := by
  induction L with
  | zero => simp [boxItems]
  | succ L ih => rw [boxItems_succ, List.length_append, ih, List.length_map, others_length hn hme, Nat.add_mul, Nat.one_mul]

theorem itemCells_length (me : Nat) (log : List Cm) (p : Nat × Nat) : (itemCells me log p).length = 12 := by simp [itemCells, entCells_length]

theorem flatL_get {α : Type} (f : α → List Value) (s : Nat) (hs : ∀ x, (f x).length = s) : ∀ (l : List α) (i o : Nat) (hi : i < l.length), o < s → (l.flatMap f)[i * s + o]? = (f l[i])[o]?
  | [], i, o, hi, _ => by simp at hi
  | x :: l, 0, o, hi, ho => by
    rw [List.flatMap_cons, Nat.zero_mul, Nat.zero_add, List.getElem?_append_left (by rw [hs]; exact ho)]
    rfl
  | x :: l, i + 1, o, hi, ho => by
    rw [List.flatMap_cons, List.getElem?_append_right (by rw [hs, Nat.add_mul]; omega), hs, show (i + 1) * s + o - s = i * s + o by rw [Nat.add_mul]; omega]
    exact flatL_get f s hs l i o (by simpa using hi) ho

/-- How many items go to t. -/
def cnt (its : List (Nat × Nat)) (t : Nat) : Nat := its.countP fun p => decide (p.1 = t)

theorem cnt_snoc (its : List (Nat × Nat)) (p : Nat × Nat) (t : Nat) : cnt (its ++ [p]) t = if p.1 = t then cnt its t + 1 else cnt its t := by
  unfold cnt
  rw [List.countP_append]
  by_cases h : p.1 = t <;> simp [h]

def openN (its : List (Nat × Nat)) : Nat := max (max (max (max (cnt its 0) (cnt its 1)) (cnt its 2)) (cnt its 3)) (cnt its 4)

theorem cnt_others {n me : Nat} (hn : 2 ≤ n ∧ n ≤ 5) (hme : me < n) (t : Nat) (h5 : t < 5) : (others n me).countP (fun x => decide (x = t)) = if t < n ∧ t ≠ me then 1 else 0 := by
  rcases (show n = 2 ∨ n = 3 ∨ n = 4 ∨ n = 5 by omega) with rfl | rfl | rfl | rfl <;> rcases (show me = 0 ∨ me = 1 ∨ me = 2 ∨ me = 3 ∨ me = 4 by omega) with rfl | rfl | rfl | rfl | rfl <;> first | omega | (rcases (show t = 0 ∨ t = 1 ∨ t = 2 ∨ t = 3 ∨ t = 4 by omega) with rfl | rfl | rfl | rfl | rfl <;> decide)

theorem cnt_box {n me : Nat} (hn : 2 ≤ n ∧ n ≤ 5) (hme : me < n) (L t : Nat) (h5 : t < 5) : cnt (boxItems n me L) t = if t < n ∧ t ≠ me then L else 0 := by
  induction L with
  | zero => simp [boxItems, cnt]
  | succ L ih =>
    rw [boxItems_succ]
    unfold cnt at ih ⊢
    rw [List.countP_append, ih, List.countP_map]
    have : List.countP ((fun p : Nat × Nat => decide (p.1 = t)) ∘ fun t => (t, L)) (others n me) = if t < n ∧ t ≠ me then 1 else 0 := cnt_others hn hme t h5
    rw [this]
    split <;> omega

theorem openN_box {n me : Nat} (hn : 2 ≤ n ∧ n ≤ 5) (hme : me < n) (L : Nat) : openN (boxItems n me L) = L := by
  unfold openN
  rw [cnt_box hn hme L 0 (by omega), cnt_box hn hme L 1 (by omega), cnt_box hn hme L 2 (by omega), cnt_box hn hme L 3 (by omega), cnt_box hn hme L 4 (by omega)]
  rcases (show n = 2 ∨ n = 3 ∨ n = 4 ∨ n = 5 by omega) with rfl | rfl | rfl | rfl <;> rcases (show me = 0 ∨ me = 1 ∨ me = 2 ∨ me = 3 ∨ me = 4 by omega) with rfl | rfl | rfl | rfl | rfl <;> first | omega | simp

/-- An item's cells in memory. -/
theorem item_cells {w : World} {wv : Value} {me : Nat} {log : List Cm} {its : List (Nat × Nat)} (h : w.ownsRow 0 171 12 wv its.length (boxC me log its)) {i : Nat} (hi : i < its.length) :
    ∃ g cap, wv = .slice (some ⟨g, 0, none⟩) its.length cap ∧ g < w.heap.size ∧ ∀ o v, o < 12 → (itemCells me log its[i])[o]? = some v → w.cell? ⟨g, i * 12 + o, none⟩ = some v := by
  obtain ⟨g, cap, hv, -, hg⟩ := h.form (by omega)
  refine ⟨g, cap, hv, hg, fun o v ho he => ?_⟩
  have := h.cells (g := g) (by rw [hv]; rfl) (i * 12 + o) v (by unfold boxC; rw [flatL_get (itemCells me log) 12 (itemCells_length me log) its i o hi ho]; exact he)
  rwa [Addr.add_mid, Nat.zero_add] at this

def mx (n0 n1 n2 n3 n4 : Nat) : Nat → Nat
  | 0 => 0
  | 1 => n0
  | 2 => max n0 n1
  | 3 => max (max n0 n1) n2
  | 4 => max (max (max n0 n1) n2) n3
  | _ => max (max (max (max n0 n1) n2) n3) n4

set_option maxRecDepth 100000 in
set_option maxHeartbeats 4000000 in
theorem max_any (b n0 n1 n2 n3 n4 : Nat) (w : World) (h : w.heap[b]? = some (.cells #[.int .i64 (n0 : Int), .int .i64 (n1 : Int), .int .i64 (n2 : Int), .int .i64 (n3 : Int), .int .i64 (n4 : Int)] 102 (0, 0))) :
    Calls Tryz.prog 87 #[.slice (some ⟨b, 0, none⟩) 5 5] w fun e w' => e = .returned (.int .i64 ((mx n0 n1 n2 n3 n4 5 : Nat) : Int)) ∧ w' = w := by
  have c0 : w.cell? ⟨b, 0, none⟩ = some (.int .i64 (n0 : Int)) := by rw [cell_of_heap h]; rfl
  have c1 : w.cell? ⟨b, 1, none⟩ = some (.int .i64 (n1 : Int)) := by rw [cell_of_heap h]; rfl
  have c2 : w.cell? ⟨b, 2, none⟩ = some (.int .i64 (n2 : Int)) := by rw [cell_of_heap h]; rfl
  have c3 : w.cell? ⟨b, 3, none⟩ = some (.int .i64 (n3 : Int)) := by rw [cell_of_heap h]; rfl
  have c4 : w.cell? ⟨b, 4, none⟩ = some (.int .i64 (n4 : Int)) := by rw [cell_of_heap h]; rfl
  clear h
  go_enter Tryz.func87, Tryz.ntmps87
  go_wp2
  go_loopw [3, 4] (fun m i wr => ∃ j : Nat, 1 ≤ j ∧ j ≤ 5 ∧ i = .int .i64 j ∧ m = .int .i64 ((mx n0 n1 n2 n3 n4 j : Nat) : Int) ∧ wr = w) (fun _ i _ => 5 - (intOf i).toNat)
  case atStart => exact ⟨1, by omega, by omega, rfl, rfl, rfl⟩
  case round =>
    obtain ⟨j, hj1, hj, rfl, rfl, rfl⟩ := hrel
    rcases (show j = 1 ∨ j = 2 ∨ j = 3 ∨ j = 4 ∨ j = 5 by omega) with rfl | rfl | rfl | rfl | rfl
    · go_wp2
      go_roundw
      case rel => exact ⟨2, by omega, by omega, by go_num, by simp only [mx]; congr 1; omega, trivial⟩
      case measure => simp [intOf]
    · go_wp2
      go_roundw
      case rel => exact ⟨3, by omega, by omega, by go_num, by simp only [mx]; congr 1; omega, trivial⟩
      case measure => simp [intOf]
    · go_wp2
      go_roundw
      case rel => exact ⟨4, by omega, by omega, by go_num, by simp only [mx]; congr 1; omega, trivial⟩
      case measure => simp [intOf]
    · go_wp2
      go_roundw
      case rel => exact ⟨5, by omega, by omega, by go_num, by simp only [mx]; congr 1; omega, trivial⟩
      case measure => simp [intOf]
    · go_wp2
      go_ret
      exact ⟨rfl, rfl⟩

theorem size_setCell' (w : World) (a : Addr) (v : Value) : (w.setCell a v).heap.size = w.heap.size := by simp [World.setCell]

theorem openN_mx (its : List (Nat × Nat)) : mx (cnt its 0) (cnt its 1) (cnt its 2) (cnt its 3) (cnt its 4) 5 = openN its := rfl

theorem take_snocP {α : Type} (l : List α) (k : Nat) (h : k < l.length) : l.take (k + 1) = l.take k ++ [l[k]] := by rw [List.take_add_one, List.getElem?_eq_getElem h]; rfl

theorem cnt_le (its : List (Nat × Nat)) (t : Nat) : cnt its t ≤ its.length := List.countP_le_length

set_option maxRecDepth 100000 in
set_option maxHeartbeats 4000000 in
theorem open_any (rb me : Nat) (log : List Cm) (its : List (Nat × Nat)) (ht : ∀ p ∈ its, p.1 < 5) (hl : its.length ≤ 100) (wv : Value) (w : World) (h11 : w.cell? ⟨rb, 11, none⟩ = some wv) (hrow : w.ownsRow 0 171 12 wv its.length (boxC me log its)) :
    Calls Tryz.prog 48 #[.pointer (some ⟨rb, 10, none⟩)] w fun e w' => e = .returned (.int .i64 ((openN its : Nat) : Int)) ∧ Below w.heap.size w w' := by
  obtain ⟨pe, cape, hev⟩ : ∃ p c, wv = .slice p its.length c := by
    rcases hrow.2 with ⟨h1, h0⟩ | ⟨g, cap', _, h1, _⟩
    · rw [h0]; exact ⟨_, _, h1⟩
    · exact ⟨_, _, h1⟩
  have HR : Hid (w.ownsRow 0 171 12 wv its.length (boxC me log its)) := hrow
  have HE : Hid (wv = .slice pe its.length cape) := hev
  have HT : Hid (∀ p ∈ its, p.1 < 5) := ht
  have HM : Hid (∀ (W : World) n0 n1 n2 n3 n4, W.heap[w.heap.size]? = some (.cells #[.int .i64 ((n0 : Nat) : Int), .int .i64 ((n1 : Nat) : Int), .int .i64 ((n2 : Nat) : Int), .int .i64 ((n3 : Nat) : Int), .int .i64 ((n4 : Nat) : Int)] 102 (0, 0)) → Calls Tryz.prog 87 #[.slice (some ⟨w.heap.size, 0, none⟩) 5 5] W fun e w' => e = .returned (.int .i64 ((mx n0 n1 n2 n3 n4 5 : Nat) : Int)) ∧ w' = W) := fun W n0 n1 n2 n3 n4 h => max_any _ _ _ _ _ _ W h
  rw [hev] at h11
  have hrl : rb < w.heap.size := World.block_lt_of_cell? w _ h11
  clear hrow hev ht
  go_enter Tryz.func48, Tryz.ntmps48
  go_wp2
  go_loopw [11] (fun i wr => ∃ j : Nat, j ≤ its.length ∧ i = .int .i64 j ∧ Hid (wr.heap[w.heap.size]? = some (.cells #[.int .i64 ((cnt (its.take j) 0 : Nat) : Int), .int .i64 ((cnt (its.take j) 1 : Nat) : Int), .int .i64 ((cnt (its.take j) 2 : Nat) : Int), .int .i64 ((cnt (its.take j) 3 : Nat) : Int), .int .i64 ((cnt (its.take j) 4 : Nat) : Int)] 102 (0, 0))) ∧ Hid (Below w.heap.size w wr)) (fun i _ => its.length - (intOf i).toNat)
  case atStart => exact ⟨0, Nat.zero_le _, rfl, (by show _ = _; rw [heap_alloc_new]; simp [cnt]), (Below.refl _ w).alloc (Nat.le_refl _) _⟩
  case round =>
    obtain ⟨j, hj, rfl, hC, hB⟩ := hrel
    by_cases hlt : j < its.length
    · have hrw : wr.ownsRow 0 171 12 wv its.length (boxC me log its) := (Upd.of_below (S := []) hB.out).owns HR.out (by simp)
      obtain ⟨g, cap, hge, hgl, hcl⟩ := item_cells hrw hlt
      rw [HE.out] at hge
      obtain ⟨rfl, -, rfl⟩ : pe = some ⟨g, 0, none⟩ ∧ True ∧ cape = cap := by simpa using hge
      clear hge hrw
      have ht5 := HT.out its[j] (List.getElem_mem _)
      have hsn := take_snocP its j hlt
      have HS : Hid (∀ t, cnt (its.take (j + 1)) t = if its[j].1 = t then cnt (its.take j) t + 1 else cnt (its.take j) t) := fun t => by rw [hsn, cnt_snoc]
      have HL : Hid (∀ t, cnt (its.take j) t ≤ 100) := fun t => Nat.le_trans (cnt_le (its.take j) t) (by rw [List.length_take]; omega)
      have HBL : Hid (w.heap.size < wr.heap.size) := (Array.getElem?_eq_some_iff.1 hC.out).1
      clear hsn
      obtain ⟨t, i, hp⟩ : ∃ t i, its[j] = (t, i) := ⟨_, _, rfl⟩
      rw [hp] at ht5 HS hcl
      simp only at ht5 HS
      clear hp
      have HS5 : Hid (cnt (its.take (j + 1)) 0 = (if t = 0 then cnt (its.take j) 0 + 1 else cnt (its.take j) 0) ∧ cnt (its.take (j + 1)) 1 = (if t = 1 then cnt (its.take j) 1 + 1 else cnt (its.take j) 1) ∧ cnt (its.take (j + 1)) 2 = (if t = 2 then cnt (its.take j) 2 + 1 else cnt (its.take j) 2) ∧ cnt (its.take (j + 1)) 3 = (if t = 3 then cnt (its.take j) 3 + 1 else cnt (its.take j) 3) ∧ cnt (its.take (j + 1)) 4 = (if t = 4 then cnt (its.take j) 4 + 1 else cnt (its.take j) 4)) := ⟨HS.out 0, HS.out 1, HS.out 2, HS.out 3, HS.out 4⟩
      clear HS
      obtain ⟨v2, v3, v4, v5, v6, v7, v8, v9, v11, s10, e0, e1, e2, e3, e4, e5, e6, e7, e8, e9, e10, e11⟩ : ∃ (v2 v3 v4 v5 v6 v7 v8 v9 v11 : Int) (s10 : ByteArray), wr.cell? ⟨g, j * 12, none⟩ = some (.int .i64 0) ∧ wr.cell? ⟨g, j * 12 + 1, none⟩ = some (.int .i64 (t : Int)) ∧ wr.cell? ⟨g, j * 12 + 2, none⟩ = some (.int .i64 v2) ∧ wr.cell? ⟨g, j * 12 + 3, none⟩ = some (.int .i64 v3) ∧ wr.cell? ⟨g, j * 12 + 4, none⟩ = some (.int .i64 v4) ∧ wr.cell? ⟨g, j * 12 + 5, none⟩ = some (.int .i64 v5) ∧ wr.cell? ⟨g, j * 12 + 6, none⟩ = some (.int .i64 v6) ∧ wr.cell? ⟨g, j * 12 + 7, none⟩ = some (.int .i64 v7) ∧ wr.cell? ⟨g, j * 12 + 8, none⟩ = some (.int .i64 v8) ∧ wr.cell? ⟨g, j * 12 + 9, none⟩ = some (.int .i64 v9) ∧ wr.cell? ⟨g, j * 12 + 10, none⟩ = some (.string s10) ∧ wr.cell? ⟨g, j * 12 + 11, none⟩ = some (.int .i64 v11) :=
        ⟨_, _, _, _, _, _, _, _, _, _, hcl 0 _ (by omega) rfl, hcl 1 _ (by omega) rfl, hcl 2 _ (by omega) rfl, hcl 3 _ (by omega) rfl, hcl 4 _ (by omega) rfl, hcl 5 _ (by omega) rfl, hcl 6 _ (by omega) rfl, hcl 7 _ (by omega) rfl, hcl 8 _ (by omega) rfl, hcl 9 _ (by omega) rfl, hcl 10 _ (by omega) rfl, hcl 11 _ (by omega) rfl⟩
      clear hcl
      have d0 : wr.cell? ⟨w.heap.size, 0, none⟩ = some (.int .i64 ((cnt (its.take j) 0 : Nat) : Int)) := by rw [cell_of_heap hC.out]; rfl
      have d1 : wr.cell? ⟨w.heap.size, 1, none⟩ = some (.int .i64 ((cnt (its.take j) 1 : Nat) : Int)) := by rw [cell_of_heap hC.out]; rfl
      have d2 : wr.cell? ⟨w.heap.size, 2, none⟩ = some (.int .i64 ((cnt (its.take j) 2 : Nat) : Int)) := by rw [cell_of_heap hC.out]; rfl
      have d3 : wr.cell? ⟨w.heap.size, 3, none⟩ = some (.int .i64 ((cnt (its.take j) 3 : Nat) : Int)) := by rw [cell_of_heap hC.out]; rfl
      have d4 : wr.cell? ⟨w.heap.size, 4, none⟩ = some (.int .i64 ((cnt (its.take j) 4 : Nat) : Int)) := by rw [cell_of_heap hC.out]; rfl
      have fz : ∀ o, wr.frozen? ⟨w.heap.size, o, none⟩ = false := frozen_of_heap hC.out
      have l0 := HL.out 0
      have l1 := HL.out 1
      have l2 := HL.out 2
      have l3 := HL.out 3
      have l4 := HL.out 4
      have hbl := HBL.out
      generalize cnt (its.take j) 0 = k0 at *
      generalize cnt (its.take j) 1 = k1 at *
      generalize cnt (its.take j) 2 = k2 at *
      generalize cnt (its.take j) 3 = k3 at *
      generalize cnt (its.take j) 4 = k4 at *
      rcases (show t = 0 ∨ t = 1 ∨ t = 2 ∨ t = 3 ∨ t = 4 by omega) with rfl | rfl | rfl | rfl | rfl
      · go_wp2
        go_roundw
        case rel =>
          refine ⟨j + 1, by omega, by go_num, ?_, (hB.out.setCell (Nat.le_refl _) _).alloc (by rw [size_setCell']; omega) _⟩
          show _ = _
          obtain ⟨q0, q1, q2, q3, q4⟩ := HS5.out
          rw [Below.heap_alloc _ _ _ (by rw [size_setCell']; omega), heap_setCell_same hC.out, q0, q1, q2, q3, q4]
          simp
        case measure => simp [intOf]; omega
      · go_wp2
        go_roundw
        case rel =>
          refine ⟨j + 1, by omega, by go_num, ?_, (hB.out.setCell (Nat.le_refl _) _).alloc (by rw [size_setCell']; omega) _⟩
          show _ = _
          obtain ⟨q0, q1, q2, q3, q4⟩ := HS5.out
          rw [Below.heap_alloc _ _ _ (by rw [size_setCell']; omega), heap_setCell_same hC.out, q0, q1, q2, q3, q4]
          simp
        case measure => simp [intOf]; omega
      · go_wp2
        go_roundw
        case rel =>
          refine ⟨j + 1, by omega, by go_num, ?_, (hB.out.setCell (Nat.le_refl _) _).alloc (by rw [size_setCell']; omega) _⟩
          show _ = _
          obtain ⟨q0, q1, q2, q3, q4⟩ := HS5.out
          rw [Below.heap_alloc _ _ _ (by rw [size_setCell']; omega), heap_setCell_same hC.out, q0, q1, q2, q3, q4]
          simp
        case measure => simp [intOf]; omega
      · go_wp2
        go_roundw
        case rel =>
          refine ⟨j + 1, by omega, by go_num, ?_, (hB.out.setCell (Nat.le_refl _) _).alloc (by rw [size_setCell']; omega) _⟩
          show _ = _
          obtain ⟨q0, q1, q2, q3, q4⟩ := HS5.out
          rw [Below.heap_alloc _ _ _ (by rw [size_setCell']; omega), heap_setCell_same hC.out, q0, q1, q2, q3, q4]
          simp
        case measure => simp [intOf]; omega
      · go_wp2
        go_roundw
        case rel =>
          refine ⟨j + 1, by omega, by go_num, ?_, (hB.out.setCell (Nat.le_refl _) _).alloc (by rw [size_setCell']; omega) _⟩
          show _ = _
          obtain ⟨q0, q1, q2, q3, q4⟩ := HS5.out
          rw [Below.heap_alloc _ _ _ (by rw [size_setCell']; omega), heap_setCell_same hC.out, q0, q1, q2, q3, q4]
          simp
        case measure => simp [intOf]; omega
    · obtain rfl : j = its.length := by omega
      rw [List.take_length] at hC
      go_wp2_with (go_at_call 87; refine (HM.out _ _ _ _ _ _ hC.out).mono ?_; rintro e w1 ⟨rfl, rfl⟩)
      go_ret
      exact ⟨rfl, hB.out⟩

end Go.Proofs.YtckmppkdpnhodaaGreatDoor

namespace Go.Proofs.YtckmppkdpnhodaaGreatDoor
set_option linter.unusedVariables false
set_option linter.unusedSimpArgs false
open Go.RowKit Go.Proofs

attribute [local go_sem ↓] Go.wp_at_zero Go.wp_at_succ

theorem Tryz.info_entry : (Tryz.prog.info? 122).map (fun i => (i.zero, i.size, i.bytes)) = some (some (.agg #[.int .i64 0, .int .i64 0, .int .i64 0, .int .i64 0, .int .i64 0, .int .i64 0, .int .i64 0, .int .i64 0, .string ByteArray.empty, .int .i64 0]), 10, 88) := by kernel_rfl

theorem logCells_snoc (me : Nat) (log : List Cm) (c : Cm) : logCells me (log ++ [c]) = logCells me log ++ entCells me log.length c := by
  unfold logCells
  rw [List.length_append, List.length_singleton, List.range_succ, List.flatMap_append]
  congr 1
  · refine flatMap_same _ fun i hi => ?_
    rw [List.getElem?_append_left (List.mem_range.1 hi)]
  · simp

theorem entCells_rc (me i : Nat) (c : Cm) : entCells me i c = [.int .i64 (me : Int), .int .i64 ((i : Int) + 1), .int .i64 ((rc me 0 i : Nat) : Int), .int .i64 ((rc me 1 i : Nat) : Int), .int .i64 ((rc me 2 i : Nat) : Int), .int .i64 ((rc me 3 i : Nat) : Int), .int .i64 ((rc me 4 i : Nat) : Int), .int .i64 (c.k.num : Int), .string c.word, .int .i64 (c.count : Int)] := by
  simp [entCells, reachCells, rc, List.range_succ]

set_option maxRecDepth 100000 in
set_option maxHeartbeats 8000000 in
theorem logput_any (rb me : Nat) (hme : me < 5) (log : List Cm) (h8 : log.length ≤ 8) (cm : Cm) (ev : Value) (C : Array Value) (T : TypeId) (w : World) (hrb : w.heap[rb]? = some (.cells C T (0, 0))) (h4 : C[4]? = some ev) (h5 : C[5 + me]? = some (.int .i64 (log.length : Int)))
    (hrow : w.ownsRow 0 122 10 ev log.length (logCells me log)) (hne : ev.ownBlock ≠ some rb) :
    Calls Tryz.prog 88 #[.pointer (some ⟨rb, 4, none⟩), .agg #[.int .i64 (me : Int), .int .i64 ((log.length : Int) + 1), .int .i64 ((rc me 0 log.length : Nat) : Int), .int .i64 ((rc me 1 log.length : Nat) : Int), .int .i64 ((rc me 2 log.length : Nat) : Int), .int .i64 ((rc me 3 log.length : Nat) : Int), .int .i64 ((rc me 4 log.length : Nat) : Int), .int .i64 (cm.k.num : Int), .string cm.word, .int .i64 (cm.count : Int)]] w fun e w' =>
      e = .returned (.tuple #[]) ∧ ∃ g cap, w'.ownsRow 0 122 10 (.slice (some ⟨g, 0, none⟩) (log.length + 1) cap) (log.length + 1) (logCells me (log ++ [cm])) ∧ (ev.ownBlock = some g ∨ w.heap.size ≤ g) ∧ g ≠ rb ∧
        w'.heap[rb]? = some (.cells ((C.setIfInBounds 4 (.slice (some ⟨g, 0, none⟩) (log.length + 1) cap)).setIfInBounds (5 + me) (.int .i64 ((log.length : Int) + 1))) T (0, 0)) ∧ Upd [some rb, ev.ownBlock] w w' := by
  obtain ⟨pe, cape, hev⟩ : ∃ p c, ev = .slice p log.length c := by
    rcases hrow.2 with ⟨h1, h0⟩ | ⟨g, cap', _, h1, _⟩
    · rw [h0]; exact ⟨_, _, h1⟩
    · exact ⟨_, _, h1⟩
  obtain ⟨i3, hi3, hy0, hy1, hy2⟩ := info_parts Tryz.info_entry
  have hrl : rb < w.heap.size := (Array.getElem?_eq_some_iff.1 hrb).1
  have c4 : w.cell? ⟨rb, 4, none⟩ = some (.slice pe log.length cape) := by rw [cell_of_heap hrb, h4, hev]
  have c5 : w.cell? ⟨rb, 5 + me, none⟩ = some (.int .i64 (log.length : Int)) := by rw [cell_of_heap hrb, h5]
  have fz : ∀ o, w.frozen? ⟨rb, o, none⟩ = false := frozen_of_heap hrb
  have HE : Hid (ev = .slice pe log.length cape) := hev
  have HC5 : Hid (C[5 + me]? = some (.int .i64 (log.length : Int))) := h5
  have HRB : Hid (w.heap[rb]? = some (.cells C T (0, 0))) := hrb
  have HL : Hid (logCells me (log ++ [cm]) = logCells me log ++ [.int .i64 (me : Int), .int .i64 ((log.length : Int) + 1), .int .i64 ((rc me 0 log.length : Nat) : Int), .int .i64 ((rc me 1 log.length : Nat) : Int), .int .i64 ((rc me 2 log.length : Nat) : Int), .int .i64 ((rc me 3 log.length : Nat) : Int), .int .i64 ((rc me 4 log.length : Nat) : Int), .int .i64 (cm.k.num : Int), .string cm.word, .int .i64 (cm.count : Int)]) := by
    show _ = _
    rw [logCells_snoc, entCells_rc]
  rw [hev] at hrow hne
  have HR : Hid (w.ownsRow 0 122 10 (.slice pe log.length cape) log.length (logCells me log)) := hrow
  clear hrow hev hrb h4 h5
  go_enter Tryz.func88, Tryz.ntmps88
  go_upto_region 1 with fail
  generalize hL : log.length = L at *
  generalize ((rc me 0 L : Nat) : Int) = r0 at *
  generalize ((rc me 1 L : Nat) : Int) = r1 at *
  generalize ((rc me 2 L : Nat) : Int) = r2 at *
  generalize ((rc me 3 L : Nat) : Int) = r3 at *
  generalize ((rc me 4 L : Nat) : Int) = r4 at *
  obtain ⟨wa, hwa⟩ : ∃ wa, w.alloc (.cells #[.int .i64 (me : Int), .int .i64 ((L : Int) + 1), .int .i64 r0, .int .i64 r1, .int .i64 r2, .int .i64 r3, .int .i64 r4, .int .i64 (cm.k.num : Int), .string cm.word, .int .i64 (cm.count : Int)] 122) = wa := ⟨_, rfl⟩
  have hba : Below w.heap.size w wa := by rw [← hwa]; exact (Below.refl _ w).alloc (Nat.le_refl _) _
  have hea : wa.heap[w.heap.size]? = some (.cells #[.int .i64 (me : Int), .int .i64 ((L : Int) + 1), .int .i64 r0, .int .i64 r1, .int .i64 r2, .int .i64 r3, .int .i64 r4, .int .i64 (cm.k.num : Int), .string cm.word, .int .i64 (cm.count : Int)] 122 (0, 0)) := by rw [← hwa]; exact heap_alloc_new w _
  have hsa : wa.heap.size = w.heap.size + 1 := by rw [← hwa]; simp
  rw [hwa]
  clear hwa
  have HBA : Hid (Below w.heap.size w wa) := hba
  have HEA : Hid (wa.heap[w.heap.size]? = some (.cells #[.int .i64 (me : Int), .int .i64 ((L : Int) + 1), .int .i64 r0, .int .i64 r1, .int .i64 r2, .int .i64 r3, .int .i64 r4, .int .i64 (cm.k.num : Int), .string cm.word, .int .i64 (cm.count : Int)] 122 (0, 0))) := hea
  have HRA : Hid (wa.ownsRow 0 122 10 (.slice pe L cape) L (logCells me log)) := (Upd.of_below (S := []) hba).owns HR.out (by simp)
  have a4 : wa.cell? ⟨rb, 4, none⟩ = some (.slice pe L cape) := cell_below hba c4
  have af : wa.frozen? ⟨rb, 4, none⟩ = false := (World.frozen?_of_block (a := ⟨rb, 4, none⟩) (hba.block rb hrl)).trans (fz 4)
  have a0 : wa.cell? ⟨w.heap.size, 0, none⟩ = some (.int .i64 (me : Int)) := by rw [cell_of_heap hea]; rfl
  have a1 : wa.cell? ⟨w.heap.size, 1, none⟩ = some (.int .i64 ((L : Int) + 1)) := by rw [cell_of_heap hea]; rfl
  have a2 : wa.cell? ⟨w.heap.size, 2, none⟩ = some (.int .i64 r0) := by rw [cell_of_heap hea]; rfl
  have a3 : wa.cell? ⟨w.heap.size, 3, none⟩ = some (.int .i64 r1) := by rw [cell_of_heap hea]; rfl
  have a4' : wa.cell? ⟨w.heap.size, 4, none⟩ = some (.int .i64 r2) := by rw [cell_of_heap hea]; rfl
  have a5 : wa.cell? ⟨w.heap.size, 5, none⟩ = some (.int .i64 r3) := by rw [cell_of_heap hea]; rfl
  have a6 : wa.cell? ⟨w.heap.size, 6, none⟩ = some (.int .i64 r4) := by rw [cell_of_heap hea]; rfl
  have a7 : wa.cell? ⟨w.heap.size, 7, none⟩ = some (.int .i64 (cm.k.num : Int)) := by rw [cell_of_heap hea]; rfl
  have a8 : wa.cell? ⟨w.heap.size, 8, none⟩ = some (.string cm.word) := by rw [cell_of_heap hea]; rfl
  have a9 : wa.cell? ⟨w.heap.size, 9, none⟩ = some (.int .i64 (cm.count : Int)) := by rw [cell_of_heap hea]; rfl
  clear c4 c5 fz hba hea
  generalize hb0 : w.heap.size = b0 at *
  have k4 : ∀ o, (wa.alloc o).cell? ⟨rb, 4, none⟩ = some (.slice pe L cape) := fun o => (World.cell?_of_block (a := ⟨rb, 4, none⟩) (Below.heap_alloc wa o rb (by omega))).trans a4
  have kf : ∀ o, (wa.alloc o).frozen? ⟨rb, 4, none⟩ = false := fun o => (World.frozen?_of_block (a := ⟨rb, 4, none⟩) (Below.heap_alloc wa o rb (by omega))).trans af
  go_region_law
    ((refine step_append_lies _ (by rfl) _ _ _ (by rfl) 0 122 i3 _ 10 88 Tryz.underlying101 hi3 hy0 hy1 hy2 rfl (by omega) (.slice pe L cape) L (logCells me log) (by rfl) (Upd.owns (S := []) (Upd.drew (Upd.alloc (Upd.refl _ _) _)) HRA.out (by simp))
        ⟨b0 + 1, 0, none⟩ 1 1 [.int .i64 (me : Int), .int .i64 ((L : Int) + 1), .int .i64 r0, .int .i64 r1, .int .i64 r2, .int .i64 r3, .int .i64 r4, .int .i64 (cm.k.num : Int), .string cm.word, .int .i64 (cm.count : Int)] (by rfl) (by rfl) (World.news_of_block (cs := #[.int .i64 (me : Int), .int .i64 ((L : Int) + 1), .int .i64 r0, .int .i64 r1, .int .i64 r2, .int .i64 r3, .int .i64 r4, .int .i64 (cm.k.num : Int), .string cm.word, .int .i64 (cm.count : Int)]) (t := 122) (fr := (0, 0)) (by rw [← hsa]; exact heap_alloc_new wa _)) (by simp [Value.oneCell'])
        (by omega) (by unfold maxLen; omega) (by omega) (by first | (simp; done) | (simp; omega)) (b0 + 1 + 1) (by simp [hsa]) ?_; intro g5 cap5 w5 hown5 hgrow hat5 hlt5; have s2 : w5.cell? ⟨rb, 4, none⟩ = some (.slice pe L cape) := (hgrow.cell_far ⟨rb, 4, none⟩ (by first | (simp; done) | (simp; omega)) (Ne.symm hne)).trans (k4 _); have sf : w5.frozen? ⟨rb, 4, none⟩ = false := (hgrow.frozen_far ⟨rb, 4, none⟩ (by first | (simp; done) | (simp; omega)) (Ne.symm hne)).trans (kf _)))
  all_goals
    obtain ⟨W9, hW9⟩ : ∃ W, W = w5.setCell ⟨rb, 4, none⟩ (.slice (some ⟨g5, 0, none⟩) (L + 1) cap5) := ⟨_, rfl⟩
    rw [← hW9]
    have u5 : Upd [(Value.slice pe L cape).ownBlock] wa w5 := (((Upd.refl _ wa).alloc _).drew).grown hgrow fun b hb => .inl (by simp [hb])
    have ne0 : ∀ b, (Value.slice pe L cape).ownBlock = some b → b < b0 := fun b hb => by have := (HR.out.lt b hb).2; omega
    have hg5 : g5 ≠ rb := by
      rcases hat5 with h | h
      · intro e; exact hne (e ▸ h)
      · omega
    have hr5 : w5.heap[rb]? = some (.cells C T (0, 0)) := (u5.block rb (by omega) (by simpa using Ne.symm hne)).trans ((HBA.out.block rb hrl).trans HRB.out)
    have he5 : w5.heap[b0]? = wa.heap[b0]? := u5.block b0 (by omega) (by simp only [List.mem_singleton]; intro e; have := ne0 b0 e.symm; omega)
    have hr9 : W9.heap[rb]? = some (.cells (C.setIfInBounds 4 (.slice (some ⟨g5, 0, none⟩) (L + 1) cap5)) T (0, 0)) := by rw [hW9]; exact heap_setCell_same hr5 _
    have he9 : W9.heap[b0]? = wa.heap[b0]? := by rw [hW9, Below.heap_setCell _ _ _ _ (by show b0 ≠ rb; omega)]; exact he5
    have q0 : W9.cell? ⟨b0, 0, none⟩ = some (.int .i64 (me : Int)) := by rw [cell_of_heap (he9.trans HEA.out)]; rfl
    have q1 : W9.cell? ⟨b0, 1, none⟩ = some (.int .i64 ((L : Int) + 1)) := by rw [cell_of_heap (he9.trans HEA.out)]; rfl
    have q5 : W9.cell? ⟨rb, 5 + me, none⟩ = some (.int .i64 (L : Int)) := by
      rw [cell_of_heap hr9, Array.getElem?_setIfInBounds_ne (by omega)]; exact HC5.out
    have qf : W9.frozen? ⟨rb, 5 + me, none⟩ = false := frozen_of_heap hr9 _
    have ho9 : W9.ownsRow 0 122 10 (.slice (some ⟨g5, 0, none⟩) (L + 1) cap5) (L + 1) (logCells me (log ++ [cm])) := by
      rw [hW9, HL.out]; exact owns_setCell_other hown5 (fun b hb => by cases hb; exact hg5) _
    have u9 : Upd [some rb, ev.ownBlock] w W9 := by
      rw [HE.out, hW9]
      exact (Upd.trans (S := [some rb, (Value.slice pe L cape).ownBlock]) (Upd.of_below (by rw [hb0]; exact HBA.out)) u5 (fun i hi => .inl (List.mem_cons_of_mem _ hi))).setCell (.inl (by simp)) _
    have HF : Hid (ev.ownBlock = some g5 ∨ w.heap.size ≤ g5) := by
      rw [HE.out]
      rcases hat5 with h | h
      · exact .inl h
      · exact .inr (by omega)
    have H9 : Hid _ := ho9
    have HU : Hid _ := u9
    have HR9 : Hid _ := hr9
    have HG : Hid (g5 ≠ rb) := hg5
    clear u5 ne0 hr5 he5 hr9 he9 hW9 ho9 u9 hgrow hown5 s2 sf hat5 k4 kf a0 a1 a2 a3 a4 a4' a5 a6 a7 a8 a9 af HEA HBA HRA HR HRB HL hy0 hy1 hy2 hi3 i3 hg5
    have hmi0 : (0 : Int) ≤ (me : Int) := by omega
    have hmi5 : (me : Int) < 5 := by omega
    have hmi6 : (me : Int) ≤ 5 := by omega
    go_upto_region 2 with fail
    go_region_held3 (fun w' => w'.cell? ⟨b0, 0, none⟩ = some (.int .i64 (me : Int)) ∧ w'.cell? ⟨b0, 1, none⟩ = some (.int .i64 ((L : Int) + 1)))
      (first
        | exact ⟨q0, q1⟩
        | exact ⟨(World.cell?_of_block (a := ⟨b0, 0, none⟩) (Below.heap_setCell W9 ⟨rb, 5 + me, none⟩ _ b0 (by show b0 ≠ rb; omega))).trans q0, (World.cell?_of_block (a := ⟨b0, 1, none⟩) (Below.heap_setCell W9 ⟨rb, 5 + me, none⟩ _ b0 (by show b0 ≠ rb; omega))).trans q1⟩
        | go_keep)
      (first
        | fail)
    go_wp2
    go_end0
    subst hL
    refine ⟨rfl, g5, cap5, ?_, HF.out, HG.out, heap_setCell_same HR9.out _, (HU.out.setCell (.inl (by simp)) _).drew⟩
    have h := owns_setCell_other (a := ⟨rb, 5 + me, none⟩) H9.out (fun b hb => by cases hb; exact HG.out) (.int .i64 ((log.length : Int) + 1))
    exact h

end Go.Proofs.YtckmppkdpnhodaaGreatDoor
