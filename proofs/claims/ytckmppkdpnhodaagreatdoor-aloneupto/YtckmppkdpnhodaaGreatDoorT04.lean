/-
  Contract of (*book).ops: a list of commands that came out is written full of a mark, and kept with three longer ones.
-/
import Derived.Test.YtckmppkdpnhodaaGreatDoorT02
import Derived.Test.YtckmppkdpnhodaaGreatDoorT03
namespace Go.Proofs.YtckmppkdpnhodaaGreatDoor
set_option linter.unusedVariables false
set_option linter.unusedSimpArgs false
open Go.RowKit

def mk3 (k : Int) : List Value := [.int .i64 k, .int .i64 k, .string ⟨#[109, 105, 110, 101]⟩]
def marks (k : Int) : Nat → List Value
  | 0 => []
  | n + 1 => marks k n ++ mk3 k

theorem marks_length (k : Int) (n : Nat) : (marks k n).length = n * 3 := by
  induction n with
  | zero => rfl
  | succ n ih => simp [marks, mk3, ih]; omega

theorem marks_add (k : Int) (n m : Nat) : marks k (n + m) = marks k n ++ marks k m := by
  induction m with
  | zero => simp [marks]
  | succ m ih => rw [← Nat.add_assoc]; simp [marks, ih]

theorem marks_get (k : Int) {n i : Nat} (h : i < n) : (marks k n)[i * 3]? = some (.int .i64 k) ∧ (marks k n)[i * 3 + 1]? = some (.int .i64 k) ∧ (marks k n)[i * 3 + 2]? = some (.string ⟨#[109, 105, 110, 101]⟩) := by
  obtain ⟨m, rfl⟩ : ∃ m, n = i + (1 + m) := ⟨n - i - 1, by omega⟩
  rw [marks_add, marks_add]
  have hl := marks_length k i
  have e1 : marks k 1 = mk3 k := by simp [marks]
  rw [e1]
  refine ⟨?_, ?_, ?_⟩
  · rw [List.getElem?_append_right (by omega)]; simp [hl, mk3]
  · rw [List.getElem?_append_right (by omega)]; simp [hl, mk3]
  · rw [List.getElem?_append_right (by omega)]; simp [hl, mk3]

theorem MarksAt.of_owns {w : World} {base : Nat} {e : TypeId} {g N M cap cap' : Nat} {k : Int} (h : w.ownsRow base e 3 (.slice (some ⟨g, 0, none⟩) N cap) N (marks k N)) (hM : M ≤ N) : MarksAt w (.slice (some ⟨g, 0, none⟩) M cap') M k := by
  refine ⟨_, _, rfl, fun i hi => ⟨g, rfl, ?_⟩⟩
  obtain ⟨m0, m1, m2⟩ := marks_get k (show i < N by omega)
  have c := h.cells (g := g) rfl
  have c0 := c _ _ m0
  have c1 := c _ _ m1
  have c2 := c _ _ m2
  rw [Addr.add_mid, Nat.zero_add] at c0 c1 c2
  exact ⟨c0, c1, c2⟩

theorem MarksAt.of_owns' {w : World} {base : Nat} {e : TypeId} {v : Value} {N : Nat} {k : Int} (h : w.ownsRow base e 3 v N (marks k N)) : MarksAt w v N k := by
  rcases id h.2 with ⟨rfl, rfl⟩ | ⟨g, cap, cur, rfl, _⟩
  · exact ⟨_, _, rfl, fun i hi => by omega⟩
  · exact MarksAt.of_owns h (Nat.le_refl _)

/-- A list that was full of its mark is so behind an append of marks onto the list l. -/
theorem MarksAt.two {w w' : World} {u l : Value} {base : Nat} {e : TypeId} {M n m g cap H : Nat} {k : Int} (h : MarksAt w u M k) (ht : TwoWays w w' l n g cap H) (hM : M ≤ n + m)
    (ho : w'.ownsRow base e 3 (.slice (some ⟨g, 0, none⟩) (n + m) cap) (n + m) (marks k (n + m))) : MarksAt w' u M k := by
  rcases ht with ⟨rfl, hg⟩ | ⟨_, hb⟩
  · obtain ⟨p, capu, rfl, hc⟩ := h
    by_cases h0 : M = 0
    · subst h0; exact ⟨_, _, rfl, fun i hi => by omega⟩
    · obtain ⟨gu, rfl, -⟩ := hc 0 (by omega)
      by_cases e : gu = g
      · subst e; exact MarksAt.of_owns ho hM
      · refine ⟨_, _, rfl, fun i hi => ⟨gu, rfl, ?_⟩⟩
        obtain ⟨g', hg', c0, c1, c2⟩ := hc i hi
        obtain rfl : gu = g' := by simpa using hg'
        exact ⟨hg.cell c0 (by simpa using e), hg.cell c1 (by simpa using e), hg.cell c2 (by simpa using e)⟩
  · exact h.below hb

theorem MarksAt.upd {w w' : World} {S : List (Option Nat)} {u : Value} {M : Nat} {k : Int} (h : MarksAt w u M k) (hu : Upd S w w') (hS : ∀ b, u.ownBlock = some b → some b ∉ S) : MarksAt w' u M k := by
  obtain ⟨p, capu, rfl, hc⟩ := h
  refine ⟨_, _, rfl, fun i hi => ?_⟩
  obtain ⟨g, rfl, c0, c1, c2⟩ := hc i hi
  exact ⟨g, rfl, hu.cell c0 (hS g rfl), hu.cell c1 (hS g rfl), hu.cell c2 (hS g rfl)⟩

theorem marks_set {k : Int} {xs : List Value} {n i : Nat} (hx : xs.length = n * 3) (hi : i < n) :
    ((((marks k i ++ xs.drop (i * 3)).set (i * 3) (.int .i64 k)).set (i * 3 + 1) (.int .i64 k)).set (i * 3 + 2) (.string ⟨#[109, 105, 110, 101]⟩)) = marks k (i + 1) ++ xs.drop ((i + 1) * 3) := by
  have hl := marks_length k i
  have hlt : i * 3 + 2 < xs.length := by omega
  have d : xs.drop (i * 3) = xs[i * 3] :: xs[i * 3 + 1] :: xs[i * 3 + 2] :: xs.drop (i * 3 + 3) := by
    rw [List.drop_eq_getElem_cons (by omega), List.drop_eq_getElem_cons (by omega), List.drop_eq_getElem_cons (by omega)]
  rw [d]
  rw [List.set_append_right _ _ (by omega), List.set_append_right _ _ (by omega), List.set_append_right _ _ (by omega)]
  simp only [hl, Nat.sub_self, Nat.add_sub_cancel_left, List.set_cons_zero, List.set_cons_succ]
  simp [marks, mk3, Nat.add_mul]

theorem marks_one (k : Int) (n : Nat) : ∀ u ∈ marks k n, u.oneCell' = true := by
  induction n with
  | zero => simp [marks]
  | succ n ih =>
    intro u hu
    rcases List.mem_append.1 hu with hu | hu
    · exact ih u hu
    · simp only [mk3, List.mem_cons, List.not_mem_nil, or_false] at hu
      rcases hu with rfl | rfl | rfl <;> rfl

/-- What ops goes on reading: the mark in its block B, and the two lists of the book; what has turned since w. -/
structure Kp (w : World) (S : List (Option Nat)) (B wb : Nat) (k : Int) (osv kov : Value) (W : World) : Prop where
  m0 : W.cell? ⟨B, 0, none⟩ = some (.int .i64 k)
  m1 : W.cell? ⟨B, 1, none⟩ = some (.int .i64 k)
  m2 : W.cell? ⟨B, 2, none⟩ = some (.string ⟨#[109, 105, 110, 101]⟩)
  c10 : W.cell? ⟨wb, 10, none⟩ = some osv
  c11 : W.cell? ⟨wb, 11, none⟩ = some kov
  f10 : W.frozen? ⟨wb, 10, none⟩ = false
  f11 : W.frozen? ⟨wb, 11, none⟩ = false
  lt : B < W.heap.size
  up : Upd S w W

theorem Kp.step {w : World} {B wb : Nat} {k : Int} {osv kov : Value} {W W' : World} {o : Obj} {S T : List (Option Nat)} (h : Kp w S B wb k osv kov W) (hu : Upd T (W.alloc o) W') (hB : some B ∉ T) (hw : some wb ∉ T) (hST : ∀ i, some i ∈ T → some i ∈ S ∨ w.heap.size ≤ i) : Kp w S B wb k osv kov W' := by
  have hwl : wb < W.heap.size := World.block_lt_of_cell? W _ h.c10
  have hl : ∀ b, b < W.heap.size → (W.alloc o).heap[b]? = W.heap[b]? := fun b hb => Below.heap_alloc W o b hb
  have hc : ∀ b j v, some b ∉ T → W.cell? ⟨b, j, none⟩ = some v → W'.cell? ⟨b, j, none⟩ = some v := fun b j v hS hv =>
    hu.cell ((World.cell?_of_block (a := ⟨b, j, none⟩) (hl b (World.block_lt_of_cell? W _ hv))).trans hv) hS
  have hf : ∀ j, W'.frozen? ⟨wb, j, none⟩ = W.frozen? ⟨wb, j, none⟩ := fun j => by
    rw [World.frozen?_of_block (a := ⟨wb, j, none⟩) (hu.block wb (by simp; omega) hw), World.frozen?_of_block (a := ⟨wb, j, none⟩) (hl wb hwl)]
  refine ⟨hc _ _ _ hB h.m0, hc _ _ _ hB h.m1, hc _ _ _ hB h.m2, hc _ _ _ hw h.c10, hc _ _ _ hw h.c11, (hf 10).trans h.f10, (hf 11).trans h.f11, ?_, (h.up.alloc o).trans hu hST⟩
  have h1 := hu.size
  have h2 := h.lt
  rw [World.size_alloc] at h1
  omega

theorem four_one {p : Option Addr} {a b c d : Nat} {x y z : Option Addr} {e f g h : Nat} : ∀ u ∈ [Value.slice p a b, .slice x c d, .slice y e f, .slice z g h], u.oneCell' = true := by
  intro u hu
  simp only [List.mem_cons, List.not_mem_nil, or_false] at hu
  rcases hu with rfl | rfl | rfl | rfl <;> rfl

theorem ints_one {a : Int} : ∀ u ∈ [Value.int .i64 a, .int .i64 a, .int .i64 a, .int .i64 a], u.oneCell' = true := by
  intro u hu
  simp only [List.mem_cons, List.not_mem_nil, or_false] at hu
  rcases hu with rfl | rfl | rfl | rfl <;> rfl

theorem book_block {w w4 w5 : World} {wb : Nat} {C : Array Value} {T : TypeId} {S : List (Option Nat)} {X kov : Value} {o : Obj} (hwb : w.heap[wb]? = some (.cells C T (0, 0))) (hwl : wb < w.heap.size) (hu : Upd S w w4) (hS : some wb ∉ S)
    (hg : ((w4.setCell ⟨wb, 10, none⟩ X).alloc o).grownBy w5 kov.ownBlock) (hk : ∀ i, kov.ownBlock = some i → i ≠ wb) : w5.heap[wb]? = some (.cells (C.setIfInBounds 10 X) T (0, 0)) := by
  have h4 : w4.heap[wb]? = some (.cells C T (0, 0)) := (hu.block wb hwl hS).trans hwb
  have hs : wb < (w4.setCell ⟨wb, 10, none⟩ X).heap.size := by have := hu.size; simp [World.setCell]; omega
  rw [hg.block wb (by simp; simp at hs; omega) (fun e => hk wb e.symm rfl), Below.heap_alloc _ _ _ hs]
  exact heap_setCell_same h4 X

theorem c11_of {C : Array Value} {X kov : Value} (h : C[11]? = some kov) : (C.setIfInBounds 10 X)[11]? = some kov := by
  rw [Array.getElem?_setIfInBounds_ne (by decide)]; exact h

theorem Kp.step4 {w : World} {B wb : Nat} {k : Int} {osv kov : Value} {W W' : World} {o : Obj} {S : List (Option Nat)} {row : Option Nat} (h : Kp w S B wb k osv kov W) (hg : (W.alloc o).grownBy W' row) (hB : ∀ i, row = some i → i ≠ B) (hw : ∀ i, row = some i → i ≠ wb) : Kp w (row :: S) B wb k osv kov W' := by
  have hu : Upd [row] (W.alloc o) W' := (Upd.refl _ _).grown hg fun k hk => .inl (by simp [hk])
  have h' : Kp w (row :: S) B wb k osv kov W := ⟨h.m0, h.m1, h.m2, h.c10, h.c11, h.f10, h.f11, h.lt, h.up.mono fun i hi => List.mem_cons_of_mem _ hi⟩
  exact h'.step hu (fun e => hB B (List.mem_singleton.1 e).symm rfl) (fun e => hw wb (List.mem_singleton.1 e).symm rfl) fun i hi => .inl (by simp at hi; simp [hi])

theorem Tryz.info_op : (Tryz.prog.info? 68).map (fun i => (i.zero, i.size, i.bytes)) = some (some (.agg #[.int .i64 0, .int .i64 0, .string ByteArray.empty]), 3, 32) := by kernel_rfl
theorem Tryz.info_ops : (Tryz.prog.info? 62).map (fun i => (i.zero, i.size, i.bytes)) = some (some (.slice none 0 0), 1, 24) := by kernel_rfl
theorem Tryz.info_int : (Tryz.prog.info? 3).map (fun i => (i.zero, i.size, i.bytes)) = some (some (.int .i64 0), 1, 8) := by kernel_rfl

set_option maxRecDepth 100000 in
set_option maxHeartbeats 4000000 in
theorem ops_any (wb : Nat) (C : Array Value) (T : TypeId) (osv kov : Value) (N : Nat) (us ks : List Value) (p : Option Addr) (n cap : Nat) (xs : List Value) (w : World)
    (hwb : w.heap[wb]? = some (.cells C T (0, 0))) (hC : C.size = 14) (h10 : C[10]? = some osv) (h11 : C[11]? = some kov)
    (hos : w.ownsRow 0 62 1 osv N us) (hko : w.ownsRow 0 3 1 kov N ks) (hl : w.ownsRow 0 68 3 (.slice p n cap) n xs)
    (d1 : osv.ownBlock ≠ some wb) (d2 : kov.ownBlock ≠ some wb) (d3 : ∀ k, osv.ownBlock = some k → kov.ownBlock ≠ some k) (d4 : (Value.slice p n cap).ownBlock ≠ some wb)
    (d5 : ∀ k, (Value.slice p n cap).ownBlock = some k → osv.ownBlock ≠ some k ∧ kov.ownBlock ≠ some k) (hN : N ≤ 100000000000) (hn : n ≤ 100000000000) :
    Calls Tryz.prog 67 #[.pointer (some ⟨wb, 8, none⟩), .slice p n cap] w fun e w' => e = .returned (.tuple #[]) ∧
      ∃ osv' kov' g h j, w'.heap[wb]? = some (.cells ((C.setIfInBounds 10 osv').setIfInBounds 11 kov') T (0, 0)) ∧
        w'.ownsRow 0 62 1 osv' (N + 4) (us ++ [.slice p n cap, g, h, j]) ∧ w'.ownsRow 0 3 1 kov' (N + 4) (ks ++ [.int .i64 (-1 - (N : Int)), .int .i64 (-1 - (N : Int)), .int .i64 (-1 - (N : Int)), .int .i64 (-1 - (N : Int))]) ∧
        MarksAt w' (.slice p n cap) n (-1 - (N : Int)) ∧ MarksAt w' g (n + 1) (-1 - (N : Int)) ∧ MarksAt w' h (n + 2) (-1 - (N : Int)) ∧ MarksAt w' j (n + 3) (-1 - (N : Int)) ∧
        Upd [some wb, osv.ownBlock, kov.ownBlock, (Value.slice p n cap).ownBlock] w w' ∧ (∀ b, osv'.ownBlock = some b → osv.ownBlock = some b ∨ w.heap.size ≤ b) ∧ (∀ b, kov'.ownBlock = some b → kov.ownBlock = some b ∨ w.heap.size ≤ b) ∧
        (∀ b, g.ownBlock = some b → (Value.slice p n cap).ownBlock = some b ∨ w.heap.size ≤ b) ∧ (∀ b, h.ownBlock = some b → (Value.slice p n cap).ownBlock = some b ∨ w.heap.size ≤ b) ∧ (∀ b, j.ownBlock = some b → (Value.slice p n cap).ownBlock = some b ∨ w.heap.size ≤ b) ∧
        (∀ b, osv'.ownBlock = some b → kov'.ownBlock ≠ some b ∧ ∀ x ∈ [Value.slice p n cap, g, h, j], x.ownBlock ≠ some b) ∧ (∀ b, kov'.ownBlock = some b → ∀ x ∈ [Value.slice p n cap, g, h, j], x.ownBlock ≠ some b) := by
  obtain ⟨i0, hi, hz0, hz1, hz2⟩ := info_parts Tryz.info_op
  obtain ⟨i1, hi1, hy0, hy1, hy2⟩ := info_parts Tryz.info_ops
  obtain ⟨i2, hi2, hx0, hx1, hx2⟩ := info_parts Tryz.info_int
  have g10 : w.cell? ⟨wb, 10, none⟩ = some osv := by rw [cell_of_heap hwb, h10]
  have g11 : w.cell? ⟨wb, 11, none⟩ = some kov := by rw [cell_of_heap hwb, h11]
  have hwl := World.block_lt_of_cell? w _ g10
  obtain ⟨po, capo, hpo⟩ : ∃ po capo, osv = .slice po N capo := by
    rcases hos.2 with ⟨rfl, rfl⟩ | ⟨g, cap', _, rfl, _⟩
    · exact ⟨_, _, rfl⟩
    · exact ⟨_, _, rfl⟩
  subst hpo
  go_enter Tryz.func67, Tryz.ntmps67
  go_wp2
  go_loopw [6] (fun i wr => ∃ k : Nat, k ≤ n ∧ i = .int .i64 k ∧ wr.ownsRow 0 68 3 (.slice p n cap) n (marks (-1 - (N : Int)) k ++ xs.drop (k * 3)) ∧ Upd [(Value.slice p n cap).ownBlock] (w.alloc (.cells #[.int .i64 (-1 - (N : Int)), .int .i64 (-1 - (N : Int)), .string ⟨#[109, 105, 110, 101]⟩] 68)) wr) (fun i _ => n - (intOf i).toNat)
  case atStart => exact ⟨0, Nat.zero_le _, rfl, by simpa [marks] using hl.alloc _, Upd.refl _ _⟩
  case round =>
    obtain ⟨k, hk, rfl, hown, hup⟩ := hrel
    have hszr : w.heap.size + 1 ≤ wr.heap.size := by have := hup.size; simpa using this
    have hdm : ∀ g, (Value.slice p n cap).ownBlock = some g → g < w.heap.size := fun g hg => (hl.lt g hg).2
    have m0 : wr.cell? ⟨w.heap.size, 0, none⟩ = some (.int .i64 (-1 - (N : Int))) := hup.cell (by simp) (by simp; intro e; have := hdm _ e.symm; omega)
    have m1 : wr.cell? ⟨w.heap.size, 1, none⟩ = some (.int .i64 (-1 - (N : Int))) := hup.cell (by simp) (by simp; intro e; have := hdm _ e.symm; omega)
    have m2 : wr.cell? ⟨w.heap.size, 2, none⟩ = some (.string ⟨#[109, 105, 110, 101]⟩) := hup.cell (by simp) (by simp; intro e; have := hdm _ e.symm; omega)
    by_cases hlt : k < n
    · obtain ⟨g, cap0, hv, -, hgl⟩ := hown.form (by omega)
      obtain ⟨rfl, -, rfl⟩ : p = some ⟨g, 0, none⟩ ∧ True ∧ cap = cap0 := by simpa using hv
      have hset := owns_set3 hown hlt (.int .i64 (-1 - (N : Int))) (.int .i64 (-1 - (N : Int))) (.string ⟨#[109, 105, 110, 101]⟩)
      rw [marks_set hl.1 hlt] at hset
      obtain ⟨cc, hcc⟩ : ∃ c, wr.heap[g]? = some (.cells c 68 (0, 0)) := by
        rcases hown.2 with ⟨h1, _⟩ | ⟨g', cap2, cur2, hv, hb, hg, h1⟩
        · cases h1
        · simp only [Value.slice.injEq, Option.some.injEq, Addr.mk.injEq, and_true, true_and] at hv
          obtain ⟨rfl, rfl⟩ := hv
          exact ⟨_, hg⟩
      have hf : ∀ o, wr.frozen? ⟨g, o, none⟩ = false := frozen_of_heap hcc
      have hce : ∀ o, o < 3 → ∃ y, wr.cell? ⟨g, k * 3 + o, none⟩ = some y := fun o ho => by
        have hlen := hown.1
        have hj : k * 3 + o < (marks (-1 - (N : Int)) k ++ xs.drop (k * 3)).length := by omega
        have := hown.cells (g := g) rfl (k * 3 + o) _ (List.getElem?_eq_getElem hj)
        rw [Addr.add_mid, Nat.zero_add] at this
        exact ⟨_, this⟩
      obtain ⟨y0, c0⟩ := hce 0 (by omega)
      obtain ⟨y1, c1⟩ := hce 1 (by omega)
      obtain ⟨y2, c2⟩ := hce 2 (by omega)
      rw [Nat.add_zero] at c0
      have HSET := hset
      replace HSET : Hid _ := HSET
      clear hset hce
      go_wp2
      go_roundw
      case rel => exact ⟨k + 1, by omega, by go_num, HSET.out, ((hup.setCell (.inl (by simp [Value.ownBlock])) _).setCell (.inl (by simp [Value.ownBlock])) _).setCell (.inl (by simp [Value.ownBlock])) _⟩
      case measure => simp [intOf]; omega
    · obtain rfl : k = n := by omega
      have hd : xs.drop (k * 3) = [] := List.drop_eq_nil_of_le (by rw [hl.1]; omega)
      rw [hd, List.append_nil] at hown
      clear hd
      have r10 : wr.cell? ⟨wb, 10, none⟩ = some (.slice po N capo) := hup.cell (by rw [World.cell?_alloc_past _ _ _ hwl]; exact g10) (by simpa using fun e => d4 e.symm)
      have r11 : wr.cell? ⟨wb, 11, none⟩ = some kov := hup.cell (by rw [World.cell?_alloc_past _ _ _ hwl]; exact g11) (by simpa using fun e => d4 e.symm)
      have hfz : ∀ o, wr.frozen? ⟨wb, o, none⟩ = false := fun o => by
        rw [World.frozen?_of_block (hup.block wb (by simp; omega) (by simpa using fun e => d4 e.symm)), World.frozen?_of_block (Below.heap_alloc w _ wb hwl)]
        exact frozen_of_heap hwb o
      have hB1 : some w.heap.size ∉ [(Value.slice p k cap).ownBlock] := by simp; intro e; have := hdm _ e.symm; omega
      have hB2 : some wb ∉ [(Value.slice p k cap).ownBlock] := by simpa using fun e => d4 e.symm
      have up0 : Upd [(Value.slice p k cap).ownBlock] w wr := ((Upd.refl _ w).alloc _).trans hup fun i hi => .inl hi
      have hdo : ∀ i, (Value.slice po N capo).ownBlock = some i → some i ∉ [(Value.slice p k cap).ownBlock] := fun i hi hm => (d5 i (List.mem_singleton.1 hm).symm).1 hi
      have hdk : ∀ i, kov.ownBlock = some i → some i ∉ [(Value.slice p k cap).ownBlock] := fun i hi hm => (d5 i (List.mem_singleton.1 hm).symm).2 hi
      have hdk4 : ∀ i, kov.ownBlock = some i → some i ∉ (Value.slice po N capo).ownBlock :: [(Value.slice p k cap).ownBlock] := fun i hi hm => by
        rcases List.mem_cons.1 hm with hm | hm
        · exact d3 i hm.symm hi
        · exact hdk i hi hm
      have hdkw : ∀ i, kov.ownBlock = some i → i ≠ wb := fun i hi e => d2 (by rw [hi, e])
      have hwS : some wb ∉ (Value.slice po N capo).ownBlock :: [(Value.slice p k cap).ownBlock] := fun hm => by
        rcases List.mem_cons.1 hm with hm | hm
        · exact d1 hm.symm
        · exact hB2 hm
      have hBo : ∀ i, (Value.slice po N capo).ownBlock = some i → i ≠ w.heap.size := fun i hi => by have := (hos.lt i hi).2; omega
      have hwo : ∀ i, (Value.slice po N capo).ownBlock = some i → i ≠ wb := fun i hi e => d1 (by rw [hi, e])
      have kp0 : Kp w [(Value.slice p k cap).ownBlock] w.heap.size wb (-1 - (N : Int)) (.slice po N capo) kov wr := ⟨m0, m1, m2, r10, r11, hfz 10, hfz 11, World.block_lt_of_cell? wr _ m0, up0⟩
      go_wp2_with (first
        | (at_builtin; refine wpList_append_lies _ rfl _ _ 75 rfl 0 3 i2 (.int .i64 0) 1 8 Tryz.underlying75 hi2 hx0 hx1 hx2 rfl (by decide) kov N ks (by rfl) ((owns_setCell_other (kp4.up.owns hko hdk4) hdkw _).alloc _) ⟨w4.heap.size, 0, none⟩ 4 4 [.int .i64 (-1 - (N : Int)), .int .i64 (-1 - (N : Int)), .int .i64 (-1 - (N : Int)), .int .i64 (-1 - (N : Int))] rfl rfl (World.news_of_block (by simpa using heap_alloc_new (w4.setCell ⟨wb, 10, none⟩ (.slice (some ⟨g4, 0, none⟩) (N + 4) cap4)) _)) ints_one (by decide) (by unfold maxLen; omega) (by omega) (by omega) (w4.heap.size + 1) (by simp) ?_; intro g5 cap5 w5 hown5 hgr5 hat5 hlt5; have hw5 := book_block hwb hwl kp4.up hwS hgr5 hdkw; have e11 := (cell_of_heap hw5 11).trans (c11_of h11); have f11 := frozen_of_heap hw5 11)
        | (at_builtin; refine wpList_append_lies _ rfl _ _ 77 rfl 0 62 i1 (.slice none 0 0) 1 24 Tryz.underlying77 hi1 hy0 hy1 hy2 rfl (by decide) (.slice po N capo) N us (by rfl) ((kp3.up.owns hos hdo).alloc _) ⟨w3.heap.size, 0, none⟩ 4 4 [.slice p k cap, .slice (some ⟨g1, 0, none⟩) (k + 1) cap1, .slice (some ⟨g2, 0, none⟩) (k + 2) cap2, .slice (some ⟨g3, 0, none⟩) (k + 3) cap3] rfl rfl (World.news_of_block (heap_alloc_new w3 _)) four_one (by decide) (by unfold maxLen; omega) (by omega) (by omega) (w3.heap.size + 1) (by simp) ?_; intro g4 cap4 w4 hown4 hgr4 hat4 hlt4; have kp4 := kp3.step4 hgr4 hBo hwo; obtain ⟨_, _, _, _, _, _, _, _, _⟩ := id kp4)
        | (at_builtin; refine wpList_append_two _ rfl _ _ 62 rfl 0 68 i0 (.agg #[.int .i64 0, .int .i64 0, .string ByteArray.empty]) 3 32 Tryz.underlying62 hi hz0 hz1 hz2 rfl (by decide) (.slice p k cap) k (marks (-1 - (N : Int)) k) (by rfl) (hownl2.alloc _) ⟨w2.heap.size, 0, none⟩ 3 3 (marks (-1 - (N : Int)) 3) rfl rfl (World.news_of_block (heap_alloc_new w2 _)) (marks_one _ _) (by decide) (by unfold maxLen; omega) (by omega) (by omega) (w2.heap.size + 1) (by simp) ?_; intro g3 cap3 w3 hown3 hownl3 htw3 hlt3; have kp3 := kp2.step htw3.upd hB1 hB2 (fun i hi => .inl hi); obtain ⟨_, _, _, _, _, _, _, _, _⟩ := id kp3)
        | (at_builtin; refine wpList_append_two _ rfl _ _ 62 rfl 0 68 i0 (.agg #[.int .i64 0, .int .i64 0, .string ByteArray.empty]) 3 32 Tryz.underlying62 hi hz0 hz1 hz2 rfl (by decide) (.slice p k cap) k (marks (-1 - (N : Int)) k) (by rfl) (hownl1.alloc _) ⟨w1.heap.size, 0, none⟩ 2 2 (marks (-1 - (N : Int)) 2) rfl rfl (World.news_of_block (heap_alloc_new w1 _)) (marks_one _ _) (by decide) (by unfold maxLen; omega) (by omega) (by omega) (w1.heap.size + 1) (by simp) ?_; intro g2 cap2 w2 hown2 hownl2 htw2 hlt2; have kp2 := kp1.step htw2.upd hB1 hB2 (fun i hi => .inl hi); obtain ⟨_, _, _, _, _, _, _, _, _⟩ := id kp2)
        | (at_builtin; refine wpList_append_two _ rfl _ _ 62 rfl 0 68 i0 (.agg #[.int .i64 0, .int .i64 0, .string ByteArray.empty]) 3 32 Tryz.underlying62 hi hz0 hz1 hz2 rfl (by decide) (.slice p k cap) k (marks (-1 - (N : Int)) k) (by rfl) (hown.alloc _) ⟨wr.heap.size, 0, none⟩ 1 1 (marks (-1 - (N : Int)) 1) rfl rfl (World.news_of_block (heap_alloc_new wr _)) (marks_one _ _) (by decide) (by unfold maxLen; omega) (by omega) (by omega) (wr.heap.size + 1) (by simp) ?_; intro g1 cap1 w1 hown1 hownl1 htw1 hlt1; have kp1 := kp0.step htw1.upd hB1 hB2 (fun i hi => .inl hi); obtain ⟨_, _, _, _, _, _, _, _, _⟩ := id kp1))
      go_end0
      have s1 := (kp0.up.size)
      have s3 := kp3.up.size
      have s4 := kp4.up.size
      have hwl3 : wb < w3.heap.size := by omega
      have upF : Upd [some wb, (Value.slice po N capo).ownBlock, kov.ownBlock] w3 (w5.setCell ⟨wb, 11, none⟩ (.slice (some ⟨g5, 0, none⟩) (N + 4) cap5)) :=
        ((((((Upd.refl _ w3).alloc _).grown hgr4 (fun i hi => .inl (by simp [hi]))).setCell (.inl (by simp)) _).alloc _).grown hgr5 (fun i hi => .inl (by simp [hi]))).setCell (.inl (by simp)) _
      have hg4 : g4 ≠ wb ∧ kov.ownBlock ≠ some g4 := by
        rcases hat4 with h | h
        · exact ⟨fun e => d1 (by rw [h, e]), d3 _ h⟩
        · exact ⟨by omega, fun e => by have := (hko.lt _ e).2; omega⟩
      have hg5 : g5 ≠ wb := by
        rcases hat5 with h | h
        · exact fun e => d2 (by rw [h, e])
        · omega
      have hlb : ∀ b, (Value.slice p k cap).ownBlock = some b → some b ∉ [some wb, (Value.slice po N capo).ownBlock, kov.ownBlock] := fun b hb hm => by
        simp only [List.mem_cons, List.not_mem_nil, or_false] at hm
        rcases hm with hm | hm | hm
        · exact d4 (by rw [hb, hm])
        · exact (d5 b hb).1 hm.symm
        · exact (d5 b hb).2 hm.symm
      have hnew : ∀ b, w.heap.size ≤ b → some b ∉ [some wb, (Value.slice po N capo).ownBlock, kov.ownBlock] := fun b hb hm => by
        simp only [List.mem_cons, List.not_mem_nil, or_false] at hm
        rcases hm with hm | hm | hm
        · simp at hm; omega
        · have := (hos.lt b hm.symm).2; omega
        · have := (hko.lt b hm.symm).2; omega
      have hgb : ∀ g H, ((Value.slice p k cap).ownBlock = some g ∨ g = H) → w.heap.size ≤ H → some g ∉ [some wb, (Value.slice po N capo).ownBlock, kov.ownBlock] := fun g H h hH => by
        rcases h with h | h
        · exact hlb g h
        · exact hnew g (by omega)
      have sr : w.heap.size ≤ wr.heap.size := s1
      have z1 : w.heap.size ≤ w1.heap.size := by have := htw1.upd.size; simp at this; omega
      have z2 : w.heap.size ≤ w2.heap.size := by have := htw2.upd.size; simp at this; omega
      rw [← marks_add] at hown1 hown2 hown3
      have ml : MarksAt w3 (.slice p k cap) k (-1 - (N : Int)) := MarksAt.of_owns' hownl3
      have mg : MarksAt w3 (.slice (some ⟨g1, 0, none⟩) (k + 1) cap1) (k + 1) (-1 - (N : Int)) :=
        ((((MarksAt.of_owns' hown1).below ((Below.refl _ _).alloc (Nat.le_refl _) _)).two htw2 (by omega) hown2).below ((Below.refl _ _).alloc (Nat.le_refl _) _)).two htw3 (by omega) hown3
      have mh : MarksAt w3 (.slice (some ⟨g2, 0, none⟩) (k + 2) cap2) (k + 2) (-1 - (N : Int)) :=
        ((MarksAt.of_owns' hown2).below ((Below.refl _ _).alloc (Nat.le_refl _) _)).two htw3 (by omega) hown3
      have mj : MarksAt w3 (.slice (some ⟨g3, 0, none⟩) (k + 3) cap3) (k + 3) (-1 - (N : Int)) := MarksAt.of_owns' hown3
      have y1 : w1.heap.size ≤ w2.heap.size := by have := htw2.upd.size; simp at this; omega
      have y2 : w2.heap.size ≤ w3.heap.size := by have := htw3.upd.size; simp at this; omega
      have y3 : w3.heap.size ≤ w4.heap.size := by have := hgr4.size; simp at this; omega
      have hxs : ∀ x ∈ [Value.slice p k cap, .slice (some ⟨g1, 0, none⟩) (k + 1) cap1, .slice (some ⟨g2, 0, none⟩) (k + 2) cap2, .slice (some ⟨g3, 0, none⟩) (k + 3) cap3], ∀ b, x.ownBlock = some b → (Value.slice p k cap).ownBlock = some b ∨ (w.heap.size ≤ b ∧ b < w3.heap.size) := by
        intro x hx b hb
        simp only [List.mem_cons, List.not_mem_nil, or_false] at hx
        rcases hx with rfl | rfl | rfl | rfl
        · exact .inl hb
        · simp [Value.ownBlock] at hb; subst hb; rcases htw1.at with h | h; exact .inl h; exact .inr (by omega)
        · simp [Value.ownBlock] at hb; subst hb; rcases htw2.at with h | h; exact .inl h; exact .inr (by omega)
        · simp [Value.ownBlock] at hb; subst hb; rcases htw3.at with h | h; exact .inl h; exact .inr (by omega)
      refine ⟨rfl, .slice (some ⟨g4, 0, none⟩) (N + 4) cap4, .slice (some ⟨g5, 0, none⟩) (N + 4) cap5, .slice (some ⟨g1, 0, none⟩) (k + 1) cap1, .slice (some ⟨g2, 0, none⟩) (k + 2) cap2, .slice (some ⟨g3, 0, none⟩) (k + 3) cap3, ?_, ?_, ?_, ?_, ?_, ?_, ?_, ?_, ?_, ?_, ?_, ?_, ?_, ?_, ?_⟩
      · exact heap_setCell_same hw5 _
      · refine owns_setCell_other (World.ownsRow.kept ((owns_setCell_other hown4 ?_ _).alloc _) hgr5 ?_) ?_ _
        · intro b hb e; simp [Value.ownBlock] at hb; exact hg4.1 (by rw [hb, e])
        · right; intro e; exact hg4.2 (by rw [← e]; rfl)
        · intro b hb e; simp [Value.ownBlock] at hb; exact hg4.1 (by rw [hb, e])
      · refine owns_setCell_other hown5 ?_ _
        intro b hb e; simp [Value.ownBlock] at hb; exact hg5 (by rw [hb, e])
      · exact ml.upd upF hlb
      · exact mg.upd upF (fun b hb => by simp [Value.ownBlock] at hb; subst hb; exact hgb _ _ htw1.at (by omega))
      · exact mh.upd upF (fun b hb => by simp [Value.ownBlock] at hb; subst hb; exact hgb _ _ htw2.at (by omega))
      · exact mj.upd upF (fun b hb => by simp [Value.ownBlock] at hb; subst hb; exact hgb _ _ htw3.at (by omega))
      · refine (kp3.up.mono fun i hi => ?_).trans upF fun i hi => .inl ?_
        · simp only [List.mem_singleton] at hi; simp [hi]
        · simp only [List.mem_cons, List.not_mem_nil, or_false] at hi ⊢
          rcases hi with hi | hi | hi <;> simp [hi]
      · intro b hb; simp [Value.ownBlock] at hb; subst hb; rcases hat4 with h | h; exact .inl h; exact .inr (by omega)
      · intro b hb; simp [Value.ownBlock] at hb; subst hb; rcases hat5 with h | h; exact .inl h; exact .inr (by omega)
      · intro b hb; simp [Value.ownBlock] at hb; subst hb; rcases htw1.at with h | h; exact .inl h; exact .inr (by omega)
      · intro b hb; simp [Value.ownBlock] at hb; subst hb; rcases htw2.at with h | h; exact .inl h; exact .inr (by omega)
      · intro b hb; simp [Value.ownBlock] at hb; subst hb; rcases htw3.at with h | h; exact .inl h; exact .inr (by omega)
      · intro b hb
        simp [Value.ownBlock] at hb
        subst hb
        refine ⟨fun e => ?_, fun x hx e => ?_⟩
        · simp [Value.ownBlock] at e
          subst e
          rcases hat5 with h | h
          · exact hg4.2 h
          · omega
        · have hxx := hxs x hx _ e
          rcases hat4 with h | h
          · rcases hxx with h' | h'
            · exact (d5 _ h').1 h
            · have := (hos.lt _ h).2; omega
          · rcases hxx with h' | h'
            · have := (hl.lt _ h').2; omega
            · omega
      · intro b hb x hx e
        simp [Value.ownBlock] at hb
        subst hb
        have hxx := hxs x hx _ e
        rcases hat5 with h | h
        · rcases hxx with h' | h'
          · exact (d5 _ h').2 h
          · have := (hko.lt _ h).2; omega
        · rcases hxx with h' | h'
          · have := (hl.lt _ h').2; omega
          · omega
end Go.Proofs.YtckmppkdpnhodaaGreatDoor
