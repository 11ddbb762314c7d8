/-
  Contract of cart.endsOf: what ends what.
-/
import Derived.Test.YtckmppkdpnhodaaGreatDoorT23
import Derived.Deep.RegionHeld3
namespace Go.Proofs.YtckmppkdpnhodaaGreatDoor
set_option linter.unusedVariables false
set_option linter.unusedSimpArgs false
open Go.RowKit Go.Proofs Go.Shelf

attribute [local go_sem] Oper.semAt_some

/-- A reach in which only the replica me has commands, as a value. -/
def reachVal (me m : Nat) : Value := ag5 (rc me 0 m) (rc me 1 m) (rc me 2 m) (rc me 3 m) (rc me 4 m)

/-- The last command of a kind on a word: how many were known where it was done. -/
def endMax (k : Kd) (pre : List EnT) (s : List UInt8) : Option Nat := pre.foldl (fun acc x => if x.c.k = k ∧ x.c.word.data.toList = s then some (max (acc.getD 0) x.i) else acc) none
def noteMax (pre : List EnT) : Nat := pre.foldl (fun m x => if x.c.k = .closeWait then max m x.i else m) 0

theorem endMax_snoc (k : Kd) (pre : List EnT) (x : EnT) (s : List UInt8) : endMax k (pre ++ [x]) s = if x.c.k = k ∧ x.c.word.data.toList = s then some (max ((endMax k pre s).getD 0) x.i) else endMax k pre s := by simp [endMax]
theorem noteMax_snoc (pre : List EnT) (x : EnT) : noteMax (pre ++ [x]) = if x.c.k = .closeWait then max (noteMax pre) x.i else noteMax pre := by simp [noteMax]

def endsF (k : Kd) (me : Nat) (pre : List EnT) : List UInt8 → Option Value := fun s => (endMax k pre s).map (reachVal me)

theorem endsF_other (k : Kd) (me : Nat) (pre : List EnT) (x : EnT) (h : x.c.k ≠ k) : endsF k me (pre ++ [x]) = endsF k me pre := by
  funext s; simp [endsF, endMax_snoc, h]

theorem endsF_same (k : Kd) (me : Nat) (pre : List EnT) (x : EnT) (h : x.c.k = k) : endsF k me (pre ++ [x]) = fput (endsF k me pre) x.c.word.data.toList (reachVal me (max ((endMax k pre x.c.word.data.toList).getD 0) x.i)) := by
  funext s
  simp only [endsF, endMax_snoc, fput, h, true_and]
  by_cases e : s = x.c.word.data.toList
  · subst e; simp
  · rw [if_neg (fun e' => e e'.symm), if_neg e]

theorem rc_zero (me j : Nat) : rc me j 0 = 0 := by unfold rc; split <;> rfl
theorem rc_max (me j a b : Nat) : max (rc me j a) (rc me j b) = rc me j (max a b) := by unfold rc; split <;> simp

theorem endsF_getD (k : Kd) (me : Nat) (pre : List EnT) (s : List UInt8) : ((endsF k me pre s).getD (.agg #[.int .i64 0, .int .i64 0, .int .i64 0, .int .i64 0, .int .i64 0])) = reachVal me ((endMax k pre s).getD 0) := by
  cases h : endMax k pre s with
  | none => simp [endsF, h, reachVal, ag5, rc_zero]
  | some m => simp [endsF, h]

theorem joinR (me a b : Nat) (W : World) : Calls Tryz.prog 129 #[.agg #[.int .i64 ((rc me 0 a : Nat) : Int), .int .i64 ((rc me 1 a : Nat) : Int), .int .i64 ((rc me 2 a : Nat) : Int), .int .i64 ((rc me 3 a : Nat) : Int), .int .i64 ((rc me 4 a : Nat) : Int)], .agg #[.int .i64 ((rc me 0 b : Nat) : Int), .int .i64 ((rc me 1 b : Nat) : Int), .int .i64 ((rc me 2 b : Nat) : Int), .int .i64 ((rc me 3 b : Nat) : Int), .int .i64 ((rc me 4 b : Nat) : Int)]] W fun e w' => e = .returned (reachVal me (max a b)) ∧ Below W.heap.size W w' := by
  have := join_any (rc me 0 a) (rc me 1 a) (rc me 2 a) (rc me 3 a) (rc me 4 a) (rc me 0 b) (rc me 1 b) (rc me 2 b) (rc me 3 b) (rc me 4 b) W
  simp only [rc_max] at this
  exact this

/-- The cells of the struct of what ends what. -/
def endCells (me b1 b2 m : Nat) : Array Value :=
  #[.map (some b1), .map (some b2), .int .i64 ((rc me 0 m : Nat) : Int), .int .i64 ((rc me 1 m : Nat) : Int), .int .i64 ((rc me 2 m : Nat) : Int), .int .i64 ((rc me 3 m : Nat) : Int), .int .i64 ((rc me 4 m : Nat) : Int)]

structure EndI (me b0 b1 b2 b3 : Nat) (w : World) (pre : List EnT) (W : World) : Prop where
  res : W.heap[b0]? = some (.cells #[.map none, .map none, .int .i64 0, .int .i64 0, .int .i64 0, .int .i64 0, .int .i64 0] 178 (0, 0))
  own : W.heap[b3]? = some (.cells (endCells me b1 b2 (noteMax pre)) 178 (0, 0))
  m1 : MapIs W b1 pre.length (endsF .listen me pre)
  m2 : MapIs W b2 pre.length (endsF .finWait me pre)
  bel : Below w.heap.size w W

theorem EndI.from {me b0 b1 b2 b3 : Nat} {w : World} {B : Nat} (h0 : b0 < B) (h1 : b1 < B) (h2 : b2 < B) (h3 : b3 < B) (hw : w.heap.size ≤ B) : OwnFrom B (EndI me b0 b1 b2 b3 w) := fun s W W' row hs hg hr => by
  have k : ∀ b, b < B → b < W.heap.size → W'.heap[b]? = W.heap[b]? := fun b hb hl => hg.block b hl (fun e => by have := (hr b e.symm).1; omega)
  refine ⟨(k b0 h0 (Array.getElem?_eq_some_iff.1 hs.res).1).trans hs.res, (k b3 h3 (Array.getElem?_eq_some_iff.1 hs.own).1).trans hs.own, hs.m1.same (k b1 h1 hs.m1.lt), hs.m2.same (k b2 h2 hs.m2.lt), ?_⟩
  exact hs.bel.grown hg hs.bel.size (fun r e => Nat.le_trans hw (hr r e).1)

theorem EndI.below {me b0 b1 b2 b3 : Nat} {w : World} {pre : List EnT} {W W' : World} (hs : EndI me b0 b1 b2 b3 w pre W) (hb : Below W.heap.size W W') : EndI me b0 b1 b2 b3 w pre W' :=
  ⟨(hb.block _ (Array.getElem?_eq_some_iff.1 hs.res).1).trans hs.res, (hb.block _ (Array.getElem?_eq_some_iff.1 hs.own).1).trans hs.own, hs.m1.below hb, hs.m2.below hb, hs.bel.trans (hb.mono hs.bel.size)⟩

theorem keeps_below {W W' : World} (h : Below W.heap.size W W') : KeepsOthers W W' := ⟨h.size, fun k o ho _ => (h.block k (Array.getElem?_eq_some_iff.1 ho).1).trans ho⟩

/-- One of the two maps has turned. -/
theorem EndI.turn1 {me b0 : Nat} {w : World} {pre : List EnT} {x : EnT} {W w1 w2 : World} (hs : EndI me b0 (b0 + 1) (b0 + 1 + 1) (b0 + 1 + 1 + 1) w pre W) (hw : w.heap.size = b0) (hb : Below W.heap.size W w1) (hg : w1.grownBy w2 (some (b0 + 1)))
    (hm : MapIs w2 (b0 + 1) (pre.length + 1) (endsF .listen me (pre ++ [x]))) (h2 : endsF .finWait me (pre ++ [x]) = endsF .finWait me pre) (h3 : noteMax (pre ++ [x]) = noteMax pre) :
    EndI me b0 (b0 + 1) (b0 + 1 + 1) (b0 + 1 + 1 + 1) w (pre ++ [x]) w2 := by
  have h1 := hs.below hb
  have k : ∀ b, b ≠ b0 + 1 → b < w1.heap.size → w2.heap[b]? = w1.heap[b]? := fun b hb hl => hg.block b hl (fun e => hb (by cases e; rfl))
  refine ⟨(k _ (by omega) (Array.getElem?_eq_some_iff.1 h1.res).1).trans h1.res, ?_, by rw [List.length_append]; exact hm, ?_, h1.bel.grown hg h1.bel.size (fun r e => by cases e; omega)⟩
  · rw [h3]; exact (k _ (by omega) (Array.getElem?_eq_some_iff.1 h1.own).1).trans h1.own
  · rw [h2, List.length_append]; exact (h1.m2.same (k _ (by omega) h1.m2.lt)).mono (by simp)

theorem EndI.turn2 {me b0 : Nat} {w : World} {pre : List EnT} {x : EnT} {W w1 w2 : World} (hs : EndI me b0 (b0 + 1) (b0 + 1 + 1) (b0 + 1 + 1 + 1) w pre W) (hw : w.heap.size = b0) (hb : Below W.heap.size W w1) (hg : w1.grownBy w2 (some (b0 + 1 + 1)))
    (hm : MapIs w2 (b0 + 1 + 1) (pre.length + 1) (endsF .finWait me (pre ++ [x]))) (h2 : endsF .listen me (pre ++ [x]) = endsF .listen me pre) (h3 : noteMax (pre ++ [x]) = noteMax pre) :
    EndI me b0 (b0 + 1) (b0 + 1 + 1) (b0 + 1 + 1 + 1) w (pre ++ [x]) w2 := by
  have h1 := hs.below hb
  have k : ∀ b, b ≠ b0 + 1 + 1 → b < w1.heap.size → w2.heap[b]? = w1.heap[b]? := fun b hb hl => hg.block b hl (fun e => hb (by cases e; rfl))
  refine ⟨(k _ (by omega) (Array.getElem?_eq_some_iff.1 h1.res).1).trans h1.res, ?_, ?_, by rw [List.length_append]; exact hm, h1.bel.grown hg h1.bel.size (fun r e => by cases e; omega)⟩
  · rw [h3]; exact (k _ (by omega) (Array.getElem?_eq_some_iff.1 h1.own).1).trans h1.own
  · rw [h2, List.length_append]; exact (h1.m1.same (k _ (by omega) h1.m1.lt)).mono (by simp)

/-- The notes have turned. -/
theorem EndI.noted {me b0 : Nat} {w : World} {pre : List EnT} {x : EnT} {W w1 : World} (hs : EndI me b0 (b0 + 1) (b0 + 1 + 1) (b0 + 1 + 1 + 1) w pre W) (hw : w.heap.size = b0) (hb : Below W.heap.size W w1)
    (h1 : endsF .listen me (pre ++ [x]) = endsF .listen me pre) (h2 : endsF .finWait me (pre ++ [x]) = endsF .finWait me pre) {m : Nat} (h3 : noteMax (pre ++ [x]) = m) :
    EndI me b0 (b0 + 1) (b0 + 1 + 1) (b0 + 1 + 1 + 1) w (pre ++ [x]) (((((w1.setCell ⟨b0 + 1 + 1 + 1, 2, none⟩ (.int .i64 ((rc me 0 m : Nat) : Int))).setCell ⟨b0 + 1 + 1 + 1, 3, none⟩ (.int .i64 ((rc me 1 m : Nat) : Int))).setCell ⟨b0 + 1 + 1 + 1, 4, none⟩ (.int .i64 ((rc me 2 m : Nat) : Int))).setCell ⟨b0 + 1 + 1 + 1, 5, none⟩ (.int .i64 ((rc me 3 m : Nat) : Int))).setCell ⟨b0 + 1 + 1 + 1, 6, none⟩ (.int .i64 ((rc me 4 m : Nat) : Int))) := by
  have hw1 := hs.below hb
  have k : ∀ b, b ≠ b0 + 1 + 1 + 1 → (((((w1.setCell ⟨b0 + 1 + 1 + 1, 2, none⟩ (.int .i64 ((rc me 0 m : Nat) : Int))).setCell ⟨b0 + 1 + 1 + 1, 3, none⟩ (.int .i64 ((rc me 1 m : Nat) : Int))).setCell ⟨b0 + 1 + 1 + 1, 4, none⟩ (.int .i64 ((rc me 2 m : Nat) : Int))).setCell ⟨b0 + 1 + 1 + 1, 5, none⟩ (.int .i64 ((rc me 3 m : Nat) : Int))).setCell ⟨b0 + 1 + 1 + 1, 6, none⟩ (.int .i64 ((rc me 4 m : Nat) : Int))).heap[b]? = w1.heap[b]? := fun b hne => by
    rw [Below.heap_setCell _ _ _ _ hne, Below.heap_setCell _ _ _ _ hne, Below.heap_setCell _ _ _ _ hne, Below.heap_setCell _ _ _ _ hne, Below.heap_setCell _ _ _ _ hne]
  refine ⟨(k _ (by omega)).trans hw1.res, ?_, ?_, ?_, ?_⟩
  · rw [heap_setCell_same (heap_setCell_same (heap_setCell_same (heap_setCell_same (heap_setCell_same hw1.own _) _) _) _) _, h3]
    simp [endCells]
  · rw [h1, List.length_append]; exact (hw1.m1.same (k _ (by omega))).mono (by simp)
  · rw [h2, List.length_append]; exact (hw1.m2.same (k _ (by omega))).mono (by simp)
  · exact ((((hw1.bel.setCell (by show w.heap.size ≤ b0 + 1 + 1 + 1; omega) _).setCell (by show w.heap.size ≤ b0 + 1 + 1 + 1; omega) _).setCell (by show w.heap.size ≤ b0 + 1 + 1 + 1; omega) _).setCell (by show w.heap.size ≤ b0 + 1 + 1 + 1; omega) _).setCell (by show w.heap.size ≤ b0 + 1 + 1 + 1; omega) _

/-- Nothing has turned. -/
theorem EndI.still {me b0 b1 b2 b3 : Nat} {w : World} {pre : List EnT} {x : EnT} {W : World} (hs : EndI me b0 b1 b2 b3 w pre W) (h1 : endsF .listen me (pre ++ [x]) = endsF .listen me pre) (h2 : endsF .finWait me (pre ++ [x]) = endsF .finWait me pre) (h3 : noteMax (pre ++ [x]) = noteMax pre) :
    EndI me b0 b1 b2 b3 w (pre ++ [x]) W :=
  ⟨hs.res, by rw [h3]; exact hs.own, by rw [h1, List.length_append]; exact hs.m1.mono (by simp), by rw [h2, List.length_append]; exact hs.m2.mono (by simp), hs.bel⟩

set_option maxRecDepth 100000 in
set_option maxHeartbeats 8000000 in
theorem endsOf_any (Bs me : Nat) (hme : me < 5) (ev : Value) (log : List Cm) (h8 : log.length ≤ 8) (hok : ∀ c ∈ log, CmOk c) (w : World) (hBs : w.cell? ⟨Bs, 0, none⟩ = some ev) (hev : ∀ b, ev.ownBlock = some b → b < w.heap.size) (hrow : w.ownsRow 0 122 10 ev log.length (logCells me log)) :
    CallsIn Fence.wide 6 Tryz.prog 90 #[.func (.func 131) #[] #[.pointer (some ⟨Bs, 0, none⟩)]] w fun e W' =>
      ∃ b1 b2, e = .returned (.agg (endCells me b1 b2 (noteMax (entsOf log h8 hok)))) ∧ w.heap.size ≤ b1 ∧ b1 < b2 ∧ b2 < W'.heap.size ∧ MapIs W' b1 8 (endsF .listen me (entsOf log h8 hok)) ∧ MapIs W' b2 8 (endsF .finWait me (entsOf log h8 hok)) ∧ Below w.heap.size w W' := by
  have hro : Fence.wide.round = none := rfl
  have h1 : 1 ≤ 6 := by omega
  have hmm := @run_makeMap Tryz.prog
  refine callsIn_of_wp_marks Tryz.func90 rfl trivial ?_ hro
  simp only [Tryz.ntmps90, List.size_toArray, List.length_cons, List.length_nil, Nat.reduceAdd, Nat.reduceSub, Array.replicate_succ, Array.replicate_zero, List.push_toArray, List.append_toArray, List.nil_append, List.cons_append]
  gi_wp2
  obtain ⟨W0, hW0⟩ : ∃ W0, (((w.alloc (.cells #[.map none, .map none, .int .i64 0, .int .i64 0, .int .i64 0, .int .i64 0, .int .i64 0] 178)).alloc (.map #[] 0)).alloc (.map #[] 0)).alloc (.cells #[.map (some (w.heap.size + 1)), .map (some (w.heap.size + 1 + 1)), .int .i64 0, .int .i64 0, .int .i64 0, .int .i64 0, .int .i64 0] 178) = W0 := ⟨_, rfl⟩
  have hsz : W0.heap.size = w.heap.size + 4 := by rw [← hW0]; simp
  have hB0 : Below w.heap.size w W0 := by rw [← hW0]; exact ((((Below.refl _ w).alloc (Nat.le_refl _) _).alloc (by simp) _).alloc (by simp; omega) _).alloc (by simp; omega) _
  have z5 : ∀ j, rc me j 0 = 0 := fun j => by unfold rc; split <;> rfl
  have hI0 : EndI me w.heap.size (w.heap.size + 1) (w.heap.size + 1 + 1) (w.heap.size + 1 + 1 + 1) w [] W0 := by
    refine ⟨?_, ?_, ?_, ?_, hB0⟩
    · rw [← hW0]
      exact (Below.heap_alloc _ _ _ (by simp; omega)).trans ((Below.heap_alloc _ _ _ (by simp; omega)).trans ((Below.heap_alloc _ _ _ (by simp)).trans (heap_alloc_new w _)))
    · rw [← hW0]
      have := heap_alloc_new (((w.alloc (.cells #[.map none, .map none, .int .i64 0, .int .i64 0, .int .i64 0, .int .i64 0, .int .i64 0] 178)).alloc (.map #[] 0)).alloc (.map #[] 0)) (.cells #[.map (some (w.heap.size + 1)), .map (some (w.heap.size + 1 + 1)), .int .i64 0, .int .i64 0, .int .i64 0, .int .i64 0, .int .i64 0] 178)
      simp only [World.size_alloc] at this
      simpa [endCells, noteMax, z5] using this
    · have := MapIs.made (w.alloc (.cells #[.map none, .map none, .int .i64 0, .int .i64 0, .int .i64 0, .int .i64 0, .int .i64 0] 178))
      simp only [World.size_alloc] at this
      rw [← hW0]
      exact this.same ((Below.heap_alloc _ _ _ (by simp)).trans (Below.heap_alloc _ _ _ (by simp)))
    · have := MapIs.made ((w.alloc (.cells #[.map none, .map none, .int .i64 0, .int .i64 0, .int .i64 0, .int .i64 0, .int .i64 0] 178)).alloc (.map #[] 0))
      simp only [World.size_alloc] at this
      rw [← hW0]
      exact this.same (Below.heap_alloc _ _ _ (by simp))
  have hBs0 : W0.cell? ⟨Bs, 0, none⟩ = some ev := cell_below hB0 hBs
  have hrow0 : W0.ownsRow 0 122 10 ev log.length (logCells me log) := (Upd.of_below (S := []) hB0).owns hrow (by simp)
  have hBl : Bs < w.heap.size := World.block_lt_of_cell? w _ hBs
  rw [hW0]
  clear hW0
  generalize hb0 : w.heap.size = b0 at *
  refine wpIn_rangeFunc_ownH hro h1 (gf := 131) (lb := #[.pointer (some ⟨Bs, 0, none⟩)]) rfl trivial (enters_of Tryz.func131 (by kernel_rfl) rfl)
    (values_stops (6 - 1) (by omega) Bs b0 me ev log h8 hok W0 (by omega) (by omega) hBs0 hev hrow0) belowK_t (belowK_b (by omega)) (Below.refl _ _) (fun _ => rfl)
    (EndI me b0 (b0 + 1) (b0 + 1 + 1) (b0 + 1 + 1 + 1) w) (fun _ _ _ => False) (EndI.from (by omega) (by omega) (by omega) (by omega) (by omega)) (fun _ _ _ _ _ hs _ _ => hs) hI0
    (fun x a' W => ∃ Bx, W0.heap.size ≤ Bx ∧ W.heap[Bx]? = some (.cells #[.int .i64 (me : Int), .int .i64 ((x.i : Int) + 1), .int .i64 ((rc me 0 x.i : Nat) : Int), .int .i64 ((rc me 1 x.i : Nat) : Int), .int .i64 ((rc me 2 x.i : Nat) : Int), .int .i64 ((rc me 3 x.i : Nat) : Int), .int .i64 ((rc me 4 x.i : Nat) : Int), .int .i64 (x.c.k.num : Int), .string x.c.word, .int .i64 (x.c.count : Int)] 122 (0, 0)) ∧ a' = { tmps := #[.func (.func 131) #[] #[.pointer (some ⟨Bs, 0, none⟩)], undef, .pointer (some ⟨b0, 0, none⟩), .pointer (some ⟨b0 + 1 + 1 + 1, 0, none⟩), .pointer (some ⟨Bx, 0, none⟩), undef, .map (some (b0 + 1)), .map (some (b0 + 1 + 1)), .agg #[.map (some (b0 + 1)), .map (some (b0 + 1 + 1)), .int .i64 0, .int .i64 0, .int .i64 0, .int .i64 0, .int .i64 0], .func (.func 131) #[] #[.pointer (some ⟨Bs, 0, none⟩)], entVal me x, undef, undef, undef, undef, undef, undef, undef, undef, undef, undef, undef, undef, undef, undef, undef, undef, undef, undef, undef, undef, undef, undef, undef, undef, undef, undef, undef, undef, undef, undef, undef, undef, undef, undef, undef, undef, undef, undef, undef], defers := [] })
    ?hAx ?assign ?body ?done ?stop
  case hAx =>
    rintro x a' _ W W' row ⟨Bx, q1, q2, q3⟩ hg hr
    refine ⟨Bx, q1, (hg.block Bx (Array.getElem?_eq_some_iff.1 q2).1 fun e => ?_).trans q2, q3⟩
    obtain ⟨-, o, ho, hc⟩ := hr Bx e.symm
    rw [q2] at ho
    cases ho
    cases hc
  case assign =>
    intro l pre x W K hI hK
    simp only [entVal]
    gi_wp2
    have h3l := (Array.getElem?_eq_some_iff.1 hI.own).1
    exact hK _ _ ((KeepsOthers.alloc _ _).from _) ((Below.refl _ W).alloc (by omega) _) (hI.below ((Below.refl _ W).alloc (Nat.le_refl _) _)) ⟨W.heap.size, by omega, heap_alloc_new W _, rfl⟩
  case body =>
    rintro l pre x a' W hl ⟨r, hr⟩ hI ⟨Bx, q1, q2, rfl⟩ hlt
    have hd : 1 ≤ 6 - 1 - 1 := by omega
    have hmx : Tryz.prog.follows .mixedOrders = true := by kernel_rfl
    have c2 : W.cell? ⟨Bx, 2, none⟩ = some (.int .i64 ((rc me 0 x.i : Nat) : Int)) := by rw [cell_of_heap q2]; rfl
    have c3 : W.cell? ⟨Bx, 3, none⟩ = some (.int .i64 ((rc me 1 x.i : Nat) : Int)) := by rw [cell_of_heap q2]; rfl
    have c4 : W.cell? ⟨Bx, 4, none⟩ = some (.int .i64 ((rc me 2 x.i : Nat) : Int)) := by rw [cell_of_heap q2]; rfl
    have c5 : W.cell? ⟨Bx, 5, none⟩ = some (.int .i64 ((rc me 3 x.i : Nat) : Int)) := by rw [cell_of_heap q2]; rfl
    have c6 : W.cell? ⟨Bx, 6, none⟩ = some (.int .i64 ((rc me 4 x.i : Nat) : Int)) := by rw [cell_of_heap q2]; rfl
    have c7 : W.cell? ⟨Bx, 7, none⟩ = some (.int .i64 (x.c.k.num : Int)) := by rw [cell_of_heap q2]; rfl
    have c8 : W.cell? ⟨Bx, 8, none⟩ = some (.string x.c.word) := by rw [cell_of_heap q2]; rfl
    have d0 : W.cell? ⟨b0 + 1 + 1 + 1, 0, none⟩ = some (.map (some (b0 + 1))) := by rw [cell_of_heap hI.own]; rfl
    have d1 : W.cell? ⟨b0 + 1 + 1 + 1, 1, none⟩ = some (.map (some (b0 + 1 + 1))) := by rw [cell_of_heap hI.own]; rfl
    have hw8 : x.c.word.size ≤ maxLen := by
      have := x.hc.word
      simp only [wordB, Bool.and_eq_true, decide_eq_true_eq] at this; unfold maxLen; omega
    cases hk : x.c.k with
    | closed =>
      rw [hk] at c7
      simp only [Kd.num] at c7
      have HI : Hid (EndI me b0 (b0 + 1) (b0 + 1 + 1) (b0 + 1 + 1 + 1) w (pre ++ [x]) W) := hI.still (endsF_other .listen me pre x (by rw [hk]; decide)) (endsF_other .finWait me pre x (by rw [hk]; decide)) (by rw [noteMax_snoc, if_neg (by rw [hk]; decide)])
      clear hI hrow hrow0 hBs hBs0 hw8 hmm hev
      gi_wp2
      exact ⟨KeepsFrom.refl _ _, Below.refl _ _, HI.out⟩
    | established =>
      rw [hk] at c7
      simp only [Kd.num] at c7
      have HI : Hid (EndI me b0 (b0 + 1) (b0 + 1 + 1) (b0 + 1 + 1 + 1) w (pre ++ [x]) W) := hI.still (endsF_other .listen me pre x (by rw [hk]; decide)) (endsF_other .finWait me pre x (by rw [hk]; decide)) (by rw [noteMax_snoc, if_neg (by rw [hk]; decide)])
      clear hI hrow hrow0 hBs hBs0 hw8 hmm hev
      gi_wp2
      exact ⟨KeepsFrom.refl _ _, Below.refl _ _, HI.out⟩
    | listen =>
      rw [hk] at c7
      simp only [Kd.num] at c7
      have hlk : (Instr.lookup 176 (.map (some (b0 + 1))) (.string x.c.word) false).run Tryz.prog W.drew = .ok (.agg #[.int .i64 ((rc me 0 ((endMax .listen pre x.c.word.data.toList).getD 0) : Nat) : Int), .int .i64 ((rc me 1 ((endMax .listen pre x.c.word.data.toList).getD 0) : Nat) : Int), .int .i64 ((rc me 2 ((endMax .listen pre x.c.word.data.toList).getD 0) : Nat) : Int), .int .i64 ((rc me 3 ((endMax .listen pre x.c.word.data.toList).getD 0) : Nat) : Int), .int .i64 ((rc me 4 ((endMax .listen pre x.c.word.data.toList).getD 0) : Nat) : Int)]) W.drew := by
        have := (hI.m1.same (w' := W.drew) rfl).look Tryz.underlying176 (Tryz.zeroValue104 W.drew) x.c.word hw8
        rw [this]
        have e := endsF_getD .listen me pre x.c.word.data.toList
        simp only [reachVal, ag5] at e
        rw [← e]
      have HF : Hid (endsF .listen me (pre ++ [x]) = fput (endsF .listen me pre) x.c.word.data.toList (reachVal me (max ((endMax .listen pre x.c.word.data.toList).getD 0) x.i))) := endsF_same .listen me pre x hk
      have HF2 : Hid (endsF .finWait me (pre ++ [x]) = endsF .finWait me pre) := endsF_other .finWait me pre x (by rw [hk]; decide)
      have HF3 : Hid (noteMax (pre ++ [x]) = noteMax pre) := by show _ = _; rw [noteMax_snoc, if_neg (by rw [hk]; decide)]
      have HI : Hid (EndI me b0 (b0 + 1) (b0 + 1 + 1) (b0 + 1 + 1 + 1) w pre W) := hI
      have HW8 : Hid (x.c.word.size ≤ maxLen) := hw8
      have hlp : pre.length < maxLen := by unfold maxLen; omega
      have HJ : Hid (∀ W', Calls Tryz.prog 129 #[.agg #[.int .i64 ((rc me 0 ((endMax .listen pre x.c.word.data.toList).getD 0) : Nat) : Int), .int .i64 ((rc me 1 ((endMax .listen pre x.c.word.data.toList).getD 0) : Nat) : Int), .int .i64 ((rc me 2 ((endMax .listen pre x.c.word.data.toList).getD 0) : Nat) : Int), .int .i64 ((rc me 3 ((endMax .listen pre x.c.word.data.toList).getD 0) : Nat) : Int), .int .i64 ((rc me 4 ((endMax .listen pre x.c.word.data.toList).getD 0) : Nat) : Int)], .agg #[.int .i64 ((rc me 0 x.i : Nat) : Int), .int .i64 ((rc me 1 x.i : Nat) : Int), .int .i64 ((rc me 2 x.i : Nat) : Int), .int .i64 ((rc me 3 x.i : Nat) : Int), .int .i64 ((rc me 4 x.i : Nat) : Int)]] W' fun e w' => e = .returned (reachVal me (max ((endMax .listen pre x.c.word.data.toList).getD 0) x.i)) ∧ Below W'.heap.size W' w') := fun W' => joinR me _ _ W'
      have HL : Hid (∀ w1, Below W.heap.size W w1 → ∃ w2, (Instr.mapUpdate 176 (.map (some (b0 + 1))) (.string x.c.word) (reachVal me (max ((endMax .listen pre x.c.word.data.toList).getD 0) x.i))).run Tryz.prog w1 = .ok () w2 ∧ MapIs w2 (b0 + 1) (pre.length + 1) (endsF .listen me (pre ++ [x])) ∧ w1.grownBy w2 (some (b0 + 1))) := fun w1 hb => by
        rw [HF.out]
        exact (HI.out.m1.below hb).put Tryz.underlying176 hlp x.c.word HW8.out _
      clear hI hrow hrow0 hBs hBs0 hw8 hmm hev
      generalize (endMax .listen pre x.c.word.data.toList).getD 0 = m0 at *
      gi_wp2
      have hS : (fun w' : World => w'.cell? ⟨b0 + 1 + 1 + 1, 0, none⟩ = some (.map (some (b0 + 1))) ∧ w'.cell? ⟨Bx, 2, none⟩ = some (.int .i64 ((rc me 0 x.i : Nat) : Int)) ∧ w'.cell? ⟨Bx, 3, none⟩ = some (.int .i64 ((rc me 1 x.i : Nat) : Int)) ∧ w'.cell? ⟨Bx, 4, none⟩ = some (.int .i64 ((rc me 2 x.i : Nat) : Int)) ∧ w'.cell? ⟨Bx, 5, none⟩ = some (.int .i64 ((rc me 3 x.i : Nat) : Int)) ∧ w'.cell? ⟨Bx, 6, none⟩ = some (.int .i64 ((rc me 4 x.i : Nat) : Int))) W.drew := ⟨d0, c2, c3, c4, c5, c6⟩
      refine regionIn_held (S := fun w' : World => w'.cell? ⟨b0 + 1 + 1 + 1, 0, none⟩ = some (.map (some (b0 + 1))) ∧ w'.cell? ⟨Bx, 2, none⟩ = some (.int .i64 ((rc me 0 x.i : Nat) : Int)) ∧ w'.cell? ⟨Bx, 3, none⟩ = some (.int .i64 ((rc me 1 x.i : Nat) : Int)) ∧ w'.cell? ⟨Bx, 4, none⟩ = some (.int .i64 ((rc me 2 x.i : Nat) : Int)) ∧ w'.cell? ⟨Bx, 5, none⟩ = some (.int .i64 ((rc me 3 x.i : Nat) : Int)) ∧ w'.cell? ⟨Bx, 6, none⟩ = some (.int .i64 ((rc me 4 x.i : Nat) : Int))) hmx (by rintro ⟨a, w, h⟩; exact h) (by kernel_rfl) ?_
      refine wpAnyH_take (i := 0) (v := (.pointer (some ⟨b0 + 1 + 1 + 1, 0, none⟩))) rfl (by kernel_rfl) (by kernel_rfl) (by kernel_rfl) (fun _ _ _ h => h) (Or.inl ⟨by rfl, ?_⟩) hS ?_
      · intro w hSw; obtain ⟨s0, s2, s3, s4, s5, s6⟩ := hSw; go_simp
      dsimp only [List.getElem_toArray, List.getElem_cons_zero, List.getElem_cons_succ]
      simp only [Act.put, List.setIfInBounds_toArray, List.set_cons_zero, List.set_cons_succ]
      refine wpAnyH_take (i := 1) (v := (.map (some (b0 + 1)))) rfl (by kernel_rfl) (by kernel_rfl) (by kernel_rfl) (fun _ _ _ h => h) (Or.inl ⟨by rfl, ?_⟩) hS ?_
      · intro w hSw; obtain ⟨s0, s2, s3, s4, s5, s6⟩ := hSw; go_simp
      dsimp only [List.getElem_toArray, List.getElem_cons_zero, List.getElem_cons_succ]
      simp only [Act.put, List.setIfInBounds_toArray, List.set_cons_zero, List.set_cons_succ]
      refine wpAnyH_take (i := 2) (v := (.string x.c.word)) rfl (by kernel_rfl) (by kernel_rfl) (by kernel_rfl) (fun _ _ _ h => h) (Or.inl ⟨by rfl, ?_⟩) hS ?_
      · intro w hSw; obtain ⟨s0, s2, s3, s4, s5, s6⟩ := hSw; go_simp
      dsimp only [List.getElem_toArray, List.getElem_cons_zero, List.getElem_cons_succ]
      simp only [Act.put, List.setIfInBounds_toArray, List.set_cons_zero, List.set_cons_succ]
      refine wpAnyH_take (i := 3) (v := (.pointer (some ⟨b0 + 1 + 1 + 1, 0, none⟩))) rfl (by kernel_rfl) (by kernel_rfl) (by kernel_rfl) (fun _ _ _ h => h) (Or.inl ⟨by rfl, ?_⟩) hS ?_
      · intro w hSw; obtain ⟨s0, s2, s3, s4, s5, s6⟩ := hSw; go_simp
      dsimp only [List.getElem_toArray, List.getElem_cons_zero, List.getElem_cons_succ]
      simp only [Act.put, List.setIfInBounds_toArray, List.set_cons_zero, List.set_cons_succ]
      refine wpAnyH_take (i := 4) (v := (.map (some (b0 + 1)))) rfl (by kernel_rfl) (by kernel_rfl) (by kernel_rfl) (fun _ _ _ h => h) (Or.inl ⟨by rfl, ?_⟩) hS ?_
      · intro w hSw; obtain ⟨s0, s2, s3, s4, s5, s6⟩ := hSw; go_simp
      dsimp only [List.getElem_toArray, List.getElem_cons_zero, List.getElem_cons_succ]
      simp only [Act.put, List.setIfInBounds_toArray, List.set_cons_zero, List.set_cons_succ]
      refine wpAnyH_take (i := 5) (v := (.string x.c.word)) rfl (by kernel_rfl) (by kernel_rfl) (by kernel_rfl) (fun _ _ _ h => h) (Or.inl ⟨by rfl, ?_⟩) hS ?_
      · intro w hSw; obtain ⟨s0, s2, s3, s4, s5, s6⟩ := hSw; go_simp
      dsimp only [List.getElem_toArray, List.getElem_cons_zero, List.getElem_cons_succ]
      simp only [Act.put, List.setIfInBounds_toArray, List.set_cons_zero, List.set_cons_succ]
      refine wpAnyH_take (i := 7) (v := (.pointer (some ⟨Bx, 2, none⟩))) rfl (by kernel_rfl) (by kernel_rfl) (by kernel_rfl) (fun _ _ _ h => h) (Or.inl ⟨by rfl, ?_⟩) hS ?_
      · intro w hSw; obtain ⟨s0, s2, s3, s4, s5, s6⟩ := hSw; go_simp
      dsimp only [List.getElem_toArray, List.getElem_cons_zero, List.getElem_cons_succ]
      simp only [Act.put, List.setIfInBounds_toArray, List.set_cons_zero, List.set_cons_succ]
      refine wpAnyH_take (i := 8) (v := (.agg #[.int .i64 ((rc me 0 x.i : Nat) : Int), .int .i64 ((rc me 1 x.i : Nat) : Int), .int .i64 ((rc me 2 x.i : Nat) : Int), .int .i64 ((rc me 3 x.i : Nat) : Int), .int .i64 ((rc me 4 x.i : Nat) : Int)])) rfl (by kernel_rfl) (by kernel_rfl) (by kernel_rfl) (fun _ _ _ h => h) (Or.inl ⟨by rfl, ?_⟩) hS ?_
      · intro w hSw; obtain ⟨s0, s2, s3, s4, s5, s6⟩ := hSw; go_simp
      dsimp only [List.getElem_toArray, List.getElem_cons_zero, List.getElem_cons_succ]
      simp only [Act.put, List.setIfInBounds_toArray, List.set_cons_zero, List.set_cons_succ]
      refine wpAnyH_ready (rs := [6]) (by kernel_rfl) (by simp) ?_
      refine AllReadyH.cons rfl (fun K hK => ?_) AllReadyH.nil
      rw [if_pos (by rfl)]
      dsimp only [List.getElem_toArray, List.getElem_cons_zero, List.getElem_cons_succ]
      go_simp
      refine hK.out _ _ hS (fun _ => ?_)
      clear hK K
      try simp only [Act.put, List.setIfInBounds_toArray, List.set_cons_zero, List.set_cons_succ]
      refine wpAnyH_ready (rs := [9]) (by kernel_rfl) (by simp) ?_
      refine AllReadyH.cons rfl (fun K hK => ?_) AllReadyH.nil
      rw [if_pos (by rfl)]
      dsimp only [List.getElem_toArray, List.getElem_cons_zero, List.getElem_cons_succ]
      go_simp
      refine (HJ.out _).mono ?_
      rintro e w1 ⟨rfl, hb1⟩
      have hbw : Below W.heap.size W w1 := ((Below.refl _ W).drew).trans hb1
      obtain ⟨w2, hup, hmp, hgr⟩ := HL.out w1 hbw
      refine hK.out _ _ ⟨cell_below hbw d0, cell_below hbw c2, cell_below hbw c3, cell_below hbw c4, cell_below hbw c5, cell_below hbw c6⟩ (fun _ => ?_)
      clear hK K
      try simp only [Act.put, List.setIfInBounds_toArray, List.set_cons_zero, List.set_cons_succ]
      refine wpAnyH_ready (rs := [10]) (by kernel_rfl) (by simp) ?_
      refine AllReadyH.cons rfl (fun K hK => ?_) AllReadyH.nil
      rw [if_pos (by rfl)]
      dsimp only [List.getElem_toArray, List.getElem_cons_zero, List.getElem_cons_succ]
      go_simp
      have k2 : ∀ {a : Addr} {v : Value}, w1.cell? a = some v → a.block ≠ b0 + 1 → w2.cell? a = some v := fun {a v} hc hne => (World.cell?_of_block (hgr.block a.block (World.block_lt_of_cell? w1 a hc) (fun e => hne (Option.some.inj e)))).trans hc
      have hBx : Bx ≠ b0 + 1 := by omega
      refine hK.out _ _ ⟨k2 (cell_below hbw d0) (by first | (simp; done) | (simp; omega)), k2 (cell_below hbw c2) hBx, k2 (cell_below hbw c3) hBx, k2 (cell_below hbw c4) hBx, k2 (cell_below hbw c5) hBx, k2 (cell_below hbw c6) hBx⟩ (fun _ => ?_)
      clear hK K
      refine wpAnyH_done (by kernel_rfl) ?_ _
      gi_wp2
      have hbl := HI.out.bel.size
      exact ⟨((keeps_below hbw).from _).trans (KeepsFrom.of_grownBy hgr (fun j e => by cases e; omega)), ((hbw.mono (by omega))).trans ((Below.refl _ w1).grown hgr (by have := hbw.size; omega) (fun r e => by cases e; omega)), HI.out.turn1 hb0 hbw hgr hmp HF2.out HF3.out⟩
    | finWait =>
      rw [hk] at c7
      simp only [Kd.num] at c7
      have hlk : (Instr.lookup 176 (.map (some (b0 + 1 + 1))) (.string x.c.word) false).run Tryz.prog W.drew = .ok (.agg #[.int .i64 ((rc me 0 ((endMax .finWait pre x.c.word.data.toList).getD 0) : Nat) : Int), .int .i64 ((rc me 1 ((endMax .finWait pre x.c.word.data.toList).getD 0) : Nat) : Int), .int .i64 ((rc me 2 ((endMax .finWait pre x.c.word.data.toList).getD 0) : Nat) : Int), .int .i64 ((rc me 3 ((endMax .finWait pre x.c.word.data.toList).getD 0) : Nat) : Int), .int .i64 ((rc me 4 ((endMax .finWait pre x.c.word.data.toList).getD 0) : Nat) : Int)]) W.drew := by
        have := (hI.m2.same (w' := W.drew) rfl).look Tryz.underlying176 (Tryz.zeroValue104 W.drew) x.c.word hw8
        rw [this]
        have e := endsF_getD .finWait me pre x.c.word.data.toList
        simp only [reachVal, ag5] at e
        rw [← e]
      have HF : Hid (endsF .finWait me (pre ++ [x]) = fput (endsF .finWait me pre) x.c.word.data.toList (reachVal me (max ((endMax .finWait pre x.c.word.data.toList).getD 0) x.i))) := endsF_same .finWait me pre x hk
      have HF2 : Hid (endsF .listen me (pre ++ [x]) = endsF .listen me pre) := endsF_other .listen me pre x (by rw [hk]; decide)
      have HF3 : Hid (noteMax (pre ++ [x]) = noteMax pre) := by show _ = _; rw [noteMax_snoc, if_neg (by rw [hk]; decide)]
      have HI : Hid (EndI me b0 (b0 + 1) (b0 + 1 + 1) (b0 + 1 + 1 + 1) w pre W) := hI
      have HW8 : Hid (x.c.word.size ≤ maxLen) := hw8
      have hlp : pre.length < maxLen := by unfold maxLen; omega
      have HJ : Hid (∀ W', Calls Tryz.prog 129 #[.agg #[.int .i64 ((rc me 0 ((endMax .finWait pre x.c.word.data.toList).getD 0) : Nat) : Int), .int .i64 ((rc me 1 ((endMax .finWait pre x.c.word.data.toList).getD 0) : Nat) : Int), .int .i64 ((rc me 2 ((endMax .finWait pre x.c.word.data.toList).getD 0) : Nat) : Int), .int .i64 ((rc me 3 ((endMax .finWait pre x.c.word.data.toList).getD 0) : Nat) : Int), .int .i64 ((rc me 4 ((endMax .finWait pre x.c.word.data.toList).getD 0) : Nat) : Int)], .agg #[.int .i64 ((rc me 0 x.i : Nat) : Int), .int .i64 ((rc me 1 x.i : Nat) : Int), .int .i64 ((rc me 2 x.i : Nat) : Int), .int .i64 ((rc me 3 x.i : Nat) : Int), .int .i64 ((rc me 4 x.i : Nat) : Int)]] W' fun e w' => e = .returned (reachVal me (max ((endMax .finWait pre x.c.word.data.toList).getD 0) x.i)) ∧ Below W'.heap.size W' w') := fun W' => joinR me _ _ W'
      have HL : Hid (∀ w1, Below W.heap.size W w1 → ∃ w2, (Instr.mapUpdate 176 (.map (some (b0 + 1 + 1))) (.string x.c.word) (reachVal me (max ((endMax .finWait pre x.c.word.data.toList).getD 0) x.i))).run Tryz.prog w1 = .ok () w2 ∧ MapIs w2 (b0 + 1 + 1) (pre.length + 1) (endsF .finWait me (pre ++ [x])) ∧ w1.grownBy w2 (some (b0 + 1 + 1))) := fun w1 hb => by
        rw [HF.out]
        exact (HI.out.m2.below hb).put Tryz.underlying176 hlp x.c.word HW8.out _
      clear hI hrow hrow0 hBs hBs0 hw8 hmm hev
      generalize (endMax .finWait pre x.c.word.data.toList).getD 0 = m0 at *
      gi_wp2
      have hS : (fun w' : World => w'.cell? ⟨b0 + 1 + 1 + 1, 1, none⟩ = some (.map (some (b0 + 1 + 1))) ∧ w'.cell? ⟨Bx, 2, none⟩ = some (.int .i64 ((rc me 0 x.i : Nat) : Int)) ∧ w'.cell? ⟨Bx, 3, none⟩ = some (.int .i64 ((rc me 1 x.i : Nat) : Int)) ∧ w'.cell? ⟨Bx, 4, none⟩ = some (.int .i64 ((rc me 2 x.i : Nat) : Int)) ∧ w'.cell? ⟨Bx, 5, none⟩ = some (.int .i64 ((rc me 3 x.i : Nat) : Int)) ∧ w'.cell? ⟨Bx, 6, none⟩ = some (.int .i64 ((rc me 4 x.i : Nat) : Int))) W.drew := ⟨d1, c2, c3, c4, c5, c6⟩
      refine regionIn_held (S := fun w' : World => w'.cell? ⟨b0 + 1 + 1 + 1, 1, none⟩ = some (.map (some (b0 + 1 + 1))) ∧ w'.cell? ⟨Bx, 2, none⟩ = some (.int .i64 ((rc me 0 x.i : Nat) : Int)) ∧ w'.cell? ⟨Bx, 3, none⟩ = some (.int .i64 ((rc me 1 x.i : Nat) : Int)) ∧ w'.cell? ⟨Bx, 4, none⟩ = some (.int .i64 ((rc me 2 x.i : Nat) : Int)) ∧ w'.cell? ⟨Bx, 5, none⟩ = some (.int .i64 ((rc me 3 x.i : Nat) : Int)) ∧ w'.cell? ⟨Bx, 6, none⟩ = some (.int .i64 ((rc me 4 x.i : Nat) : Int))) hmx (by rintro ⟨a, w, h⟩; exact h) (by kernel_rfl) ?_
      refine wpAnyH_take (i := 0) (v := (.pointer (some ⟨b0 + 1 + 1 + 1, 1, none⟩))) rfl (by kernel_rfl) (by kernel_rfl) (by kernel_rfl) (fun _ _ _ h => h) (Or.inl ⟨by rfl, ?_⟩) hS ?_
      · intro w hSw; obtain ⟨s0, s2, s3, s4, s5, s6⟩ := hSw; go_simp
      dsimp only [List.getElem_toArray, List.getElem_cons_zero, List.getElem_cons_succ]
      simp only [Act.put, List.setIfInBounds_toArray, List.set_cons_zero, List.set_cons_succ]
      refine wpAnyH_take (i := 1) (v := (.map (some (b0 + 1 + 1)))) rfl (by kernel_rfl) (by kernel_rfl) (by kernel_rfl) (fun _ _ _ h => h) (Or.inl ⟨by rfl, ?_⟩) hS ?_
      · intro w hSw; obtain ⟨s0, s2, s3, s4, s5, s6⟩ := hSw; go_simp
      dsimp only [List.getElem_toArray, List.getElem_cons_zero, List.getElem_cons_succ]
      simp only [Act.put, List.setIfInBounds_toArray, List.set_cons_zero, List.set_cons_succ]
      refine wpAnyH_take (i := 2) (v := (.string x.c.word)) rfl (by kernel_rfl) (by kernel_rfl) (by kernel_rfl) (fun _ _ _ h => h) (Or.inl ⟨by rfl, ?_⟩) hS ?_
      · intro w hSw; obtain ⟨s0, s2, s3, s4, s5, s6⟩ := hSw; go_simp
      dsimp only [List.getElem_toArray, List.getElem_cons_zero, List.getElem_cons_succ]
      simp only [Act.put, List.setIfInBounds_toArray, List.set_cons_zero, List.set_cons_succ]
      refine wpAnyH_take (i := 3) (v := (.pointer (some ⟨b0 + 1 + 1 + 1, 1, none⟩))) rfl (by kernel_rfl) (by kernel_rfl) (by kernel_rfl) (fun _ _ _ h => h) (Or.inl ⟨by rfl, ?_⟩) hS ?_
      · intro w hSw; obtain ⟨s0, s2, s3, s4, s5, s6⟩ := hSw; go_simp
      dsimp only [List.getElem_toArray, List.getElem_cons_zero, List.getElem_cons_succ]
      simp only [Act.put, List.setIfInBounds_toArray, List.set_cons_zero, List.set_cons_succ]
      refine wpAnyH_take (i := 4) (v := (.map (some (b0 + 1 + 1)))) rfl (by kernel_rfl) (by kernel_rfl) (by kernel_rfl) (fun _ _ _ h => h) (Or.inl ⟨by rfl, ?_⟩) hS ?_
      · intro w hSw; obtain ⟨s0, s2, s3, s4, s5, s6⟩ := hSw; go_simp
      dsimp only [List.getElem_toArray, List.getElem_cons_zero, List.getElem_cons_succ]
      simp only [Act.put, List.setIfInBounds_toArray, List.set_cons_zero, List.set_cons_succ]
      refine wpAnyH_take (i := 5) (v := (.string x.c.word)) rfl (by kernel_rfl) (by kernel_rfl) (by kernel_rfl) (fun _ _ _ h => h) (Or.inl ⟨by rfl, ?_⟩) hS ?_
      · intro w hSw; obtain ⟨s0, s2, s3, s4, s5, s6⟩ := hSw; go_simp
      dsimp only [List.getElem_toArray, List.getElem_cons_zero, List.getElem_cons_succ]
      simp only [Act.put, List.setIfInBounds_toArray, List.set_cons_zero, List.set_cons_succ]
      refine wpAnyH_take (i := 7) (v := (.pointer (some ⟨Bx, 2, none⟩))) rfl (by kernel_rfl) (by kernel_rfl) (by kernel_rfl) (fun _ _ _ h => h) (Or.inl ⟨by rfl, ?_⟩) hS ?_
      · intro w hSw; obtain ⟨s0, s2, s3, s4, s5, s6⟩ := hSw; go_simp
      dsimp only [List.getElem_toArray, List.getElem_cons_zero, List.getElem_cons_succ]
      simp only [Act.put, List.setIfInBounds_toArray, List.set_cons_zero, List.set_cons_succ]
      refine wpAnyH_take (i := 8) (v := (.agg #[.int .i64 ((rc me 0 x.i : Nat) : Int), .int .i64 ((rc me 1 x.i : Nat) : Int), .int .i64 ((rc me 2 x.i : Nat) : Int), .int .i64 ((rc me 3 x.i : Nat) : Int), .int .i64 ((rc me 4 x.i : Nat) : Int)])) rfl (by kernel_rfl) (by kernel_rfl) (by kernel_rfl) (fun _ _ _ h => h) (Or.inl ⟨by rfl, ?_⟩) hS ?_
      · intro w hSw; obtain ⟨s0, s2, s3, s4, s5, s6⟩ := hSw; go_simp
      dsimp only [List.getElem_toArray, List.getElem_cons_zero, List.getElem_cons_succ]
      simp only [Act.put, List.setIfInBounds_toArray, List.set_cons_zero, List.set_cons_succ]
      refine wpAnyH_ready (rs := [6]) (by kernel_rfl) (by simp) ?_
      refine AllReadyH.cons rfl (fun K hK => ?_) AllReadyH.nil
      rw [if_pos (by rfl)]
      dsimp only [List.getElem_toArray, List.getElem_cons_zero, List.getElem_cons_succ]
      go_simp
      refine hK.out _ _ hS (fun _ => ?_)
      clear hK K
      try simp only [Act.put, List.setIfInBounds_toArray, List.set_cons_zero, List.set_cons_succ]
      refine wpAnyH_ready (rs := [9]) (by kernel_rfl) (by simp) ?_
      refine AllReadyH.cons rfl (fun K hK => ?_) AllReadyH.nil
      rw [if_pos (by rfl)]
      dsimp only [List.getElem_toArray, List.getElem_cons_zero, List.getElem_cons_succ]
      go_simp
      refine (HJ.out _).mono ?_
      rintro e w1 ⟨rfl, hb1⟩
      have hbw : Below W.heap.size W w1 := ((Below.refl _ W).drew).trans hb1
      obtain ⟨w2, hup, hmp, hgr⟩ := HL.out w1 hbw
      refine hK.out _ _ ⟨cell_below hbw d1, cell_below hbw c2, cell_below hbw c3, cell_below hbw c4, cell_below hbw c5, cell_below hbw c6⟩ (fun _ => ?_)
      clear hK K
      try simp only [Act.put, List.setIfInBounds_toArray, List.set_cons_zero, List.set_cons_succ]
      refine wpAnyH_ready (rs := [10]) (by kernel_rfl) (by simp) ?_
      refine AllReadyH.cons rfl (fun K hK => ?_) AllReadyH.nil
      rw [if_pos (by rfl)]
      dsimp only [List.getElem_toArray, List.getElem_cons_zero, List.getElem_cons_succ]
      go_simp
      have k2 : ∀ {a : Addr} {v : Value}, w1.cell? a = some v → a.block ≠ b0 + 1 + 1 → w2.cell? a = some v := fun {a v} hc hne => (World.cell?_of_block (hgr.block a.block (World.block_lt_of_cell? w1 a hc) (fun e => hne (Option.some.inj e)))).trans hc
      have hBx : Bx ≠ b0 + 1 + 1 := by omega
      refine hK.out _ _ ⟨k2 (cell_below hbw d1) (by first | (simp; done) | (simp; omega)), k2 (cell_below hbw c2) hBx, k2 (cell_below hbw c3) hBx, k2 (cell_below hbw c4) hBx, k2 (cell_below hbw c5) hBx, k2 (cell_below hbw c6) hBx⟩ (fun _ => ?_)
      clear hK K
      refine wpAnyH_done (by kernel_rfl) ?_ _
      gi_wp2
      have hbl := HI.out.bel.size
      exact ⟨((keeps_below hbw).from _).trans (KeepsFrom.of_grownBy hgr (fun j e => by cases e; omega)), ((hbw.mono (by omega))).trans ((Below.refl _ w1).grown hgr (by have := hbw.size; omega) (fun r e => by cases e; omega)), HI.out.turn2 hb0 hbw hgr hmp HF2.out HF3.out⟩
    | closeWait =>
      rw [hk] at c7
      simp only [Kd.num] at c7
      have HI : Hid (EndI me b0 (b0 + 1) (b0 + 1 + 1) (b0 + 1 + 1 + 1) w pre W) := hI
      have d2 : W.cell? ⟨b0 + 1 + 1 + 1, 2, none⟩ = some (.int .i64 ((rc me 0 (noteMax pre) : Nat) : Int)) := by rw [cell_of_heap hI.own]; rfl
      have d3 : W.cell? ⟨b0 + 1 + 1 + 1, 3, none⟩ = some (.int .i64 ((rc me 1 (noteMax pre) : Nat) : Int)) := by rw [cell_of_heap hI.own]; rfl
      have d4 : W.cell? ⟨b0 + 1 + 1 + 1, 4, none⟩ = some (.int .i64 ((rc me 2 (noteMax pre) : Nat) : Int)) := by rw [cell_of_heap hI.own]; rfl
      have d5 : W.cell? ⟨b0 + 1 + 1 + 1, 5, none⟩ = some (.int .i64 ((rc me 3 (noteMax pre) : Nat) : Int)) := by rw [cell_of_heap hI.own]; rfl
      have d6 : W.cell? ⟨b0 + 1 + 1 + 1, 6, none⟩ = some (.int .i64 ((rc me 4 (noteMax pre) : Nat) : Int)) := by rw [cell_of_heap hI.own]; rfl
      have HF1 : Hid (endsF .listen me (pre ++ [x]) = endsF .listen me pre) := endsF_other .listen me pre x (by rw [hk]; decide)
      have HF2 : Hid (endsF .finWait me (pre ++ [x]) = endsF .finWait me pre) := endsF_other .finWait me pre x (by rw [hk]; decide)
      have HF3 : Hid (noteMax (pre ++ [x]) = max (noteMax pre) x.i) := by show _ = _; rw [noteMax_snoc, if_pos hk]
      clear hI hrow hrow0 hBs hBs0 hw8 hmm hev
      have HM : Hid (∃ m0, noteMax pre = m0) := ⟨_, rfl⟩
      generalize hm0 : noteMax pre = m0 at *
      have HJ : Hid (∀ W', Calls Tryz.prog 129 #[.agg #[.int .i64 ((rc me 0 m0 : Nat) : Int), .int .i64 ((rc me 1 m0 : Nat) : Int), .int .i64 ((rc me 2 m0 : Nat) : Int), .int .i64 ((rc me 3 m0 : Nat) : Int), .int .i64 ((rc me 4 m0 : Nat) : Int)], .agg #[.int .i64 ((rc me 0 x.i : Nat) : Int), .int .i64 ((rc me 1 x.i : Nat) : Int), .int .i64 ((rc me 2 x.i : Nat) : Int), .int .i64 ((rc me 3 x.i : Nat) : Int), .int .i64 ((rc me 4 x.i : Nat) : Int)]] W' fun e w' => e = .returned (.agg #[.int .i64 ((rc me 0 (max m0 x.i) : Nat) : Int), .int .i64 ((rc me 1 (max m0 x.i) : Nat) : Int), .int .i64 ((rc me 2 (max m0 x.i) : Nat) : Int), .int .i64 ((rc me 3 (max m0 x.i) : Nat) : Int), .int .i64 ((rc me 4 (max m0 x.i) : Nat) : Int)]) ∧ Below W'.heap.size W' w') := fun W' => joinR me _ _ W'
      have HW1 : Hid (∀ w1, Below W.heap.size W w1 → ∀ o v, (endCells me (b0 + 1) (b0 + 1 + 1) m0)[o]? = some v → w1.cell? ⟨b0 + 1 + 1 + 1, o, none⟩ = some v ∧ w1.frozen? ⟨b0 + 1 + 1 + 1, o, none⟩ = false) := fun w1 hb o v hv => by
        have h := (HI.out.below hb).own
        rw [hm0] at h
        exact ⟨by rw [cell_of_heap h]; exact hv, frozen_of_heap h o⟩
      clear hm0
      gi_wp2_with (refine ⟨trivial, ?_⟩; gi_at_call 129; refine (CallsIn.inRound l (callsIn_wide.2 (HJ.out _))).mono ?_; rintro e w1 ⟨rfl, hbw⟩; obtain ⟨p2, g2⟩ := HW1.out w1 hbw 2 _ rfl; obtain ⟨p3, g3⟩ := HW1.out w1 hbw 3 _ rfl; obtain ⟨p4, g4⟩ := HW1.out w1 hbw 4 _ rfl; obtain ⟨p5, g5⟩ := HW1.out w1 hbw 5 _ rfl; obtain ⟨p6, g6⟩ := HW1.out w1 hbw 6 _ rfl)
      have hbl := HI.out.bel.size
      exact ⟨(((((((keeps_below hbw).trans (KeepsOthers.setCell _ _ _)).trans (KeepsOthers.setCell _ _ _)).trans (KeepsOthers.setCell _ _ _)).trans (KeepsOthers.setCell _ _ _)).trans (KeepsOthers.setCell _ _ _)).from _), (((((hbw.mono (by omega)).setCell (by show b0 ≤ b0 + 1 + 1 + 1; omega) _).setCell (by show b0 ≤ b0 + 1 + 1 + 1; omega) _).setCell (by show b0 ≤ b0 + 1 + 1 + 1; omega) _).setCell (by show b0 ≤ b0 + 1 + 1 + 1; omega) _).setCell (by show b0 ≤ b0 + 1 + 1 + 1; omega) _, HI.out.noted hb0 hbw HF1.out HF2.out HF3.out⟩
  case done =>
    rintro D ys W hD rfl hI hK
    have e0 : W.cell? ⟨b0 + 1 + 1 + 1, 0, none⟩ = some (.map (some (b0 + 1))) := by rw [cell_of_heap hI.own]; rfl
    have e1 : W.cell? ⟨b0 + 1 + 1 + 1, 1, none⟩ = some (.map (some (b0 + 1 + 1))) := by rw [cell_of_heap hI.own]; rfl
    generalize hm0 : noteMax (entsOf log h8 hok) = m0 at *
    have ho := hI.own
    rw [hm0] at ho
    have e2 : W.cell? ⟨b0 + 1 + 1 + 1, 2, none⟩ = some (.int .i64 ((rc me 0 m0 : Nat) : Int)) := by rw [cell_of_heap ho]; rfl
    have e3 : W.cell? ⟨b0 + 1 + 1 + 1, 3, none⟩ = some (.int .i64 ((rc me 1 m0 : Nat) : Int)) := by rw [cell_of_heap ho]; rfl
    have e4 : W.cell? ⟨b0 + 1 + 1 + 1, 4, none⟩ = some (.int .i64 ((rc me 2 m0 : Nat) : Int)) := by rw [cell_of_heap ho]; rfl
    have e5 : W.cell? ⟨b0 + 1 + 1 + 1, 5, none⟩ = some (.int .i64 ((rc me 3 m0 : Nat) : Int)) := by rw [cell_of_heap ho]; rfl
    have e6 : W.cell? ⟨b0 + 1 + 1 + 1, 6, none⟩ = some (.int .i64 ((rc me 4 m0 : Nat) : Int)) := by rw [cell_of_heap ho]; rfl
    have r0 : W.cell? ⟨b0, 0, none⟩ = some (.map none) := by rw [cell_of_heap hI.res]; rfl
    have r1 : W.cell? ⟨b0, 1, none⟩ = some (.map none) := by rw [cell_of_heap hI.res]; rfl
    have r2 : W.cell? ⟨b0, 2, none⟩ = some (.int .i64 0) := by rw [cell_of_heap hI.res]; rfl
    have r3 : W.cell? ⟨b0, 3, none⟩ = some (.int .i64 0) := by rw [cell_of_heap hI.res]; rfl
    have r4 : W.cell? ⟨b0, 4, none⟩ = some (.int .i64 0) := by rw [cell_of_heap hI.res]; rfl
    have r5 : W.cell? ⟨b0, 5, none⟩ = some (.int .i64 0) := by rw [cell_of_heap hI.res]; rfl
    have r6 : W.cell? ⟨b0, 6, none⟩ = some (.int .i64 0) := by rw [cell_of_heap hI.res]; rfl
    have fz : ∀ o, W.frozen? ⟨b0, o, none⟩ = false := frozen_of_heap hI.res
    have HI : Hid (EndI me b0 (b0 + 1) (b0 + 1 + 1) (b0 + 1 + 1 + 1) w (entsOf log h8 hok) W) := hI
    clear hI ho hrow hrow0 hBs hBs0 hmm hev
    gi_wp2
    obtain ⟨W7, hW7⟩ : ∃ W7, ((((((W.setCell ⟨b0, 0, none⟩ (.map (some (b0 + 1)))).setCell ⟨b0, 1, none⟩ (.map (some (b0 + 1 + 1)))).setCell ⟨b0, 2, none⟩ (.int .i64 ((rc me 0 m0 : Nat) : Int))).setCell ⟨b0, 3, none⟩ (.int .i64 ((rc me 1 m0 : Nat) : Int))).setCell ⟨b0, 4, none⟩ (.int .i64 ((rc me 2 m0 : Nat) : Int))).setCell ⟨b0, 5, none⟩ (.int .i64 ((rc me 3 m0 : Nat) : Int))).setCell ⟨b0, 6, none⟩ (.int .i64 ((rc me 4 m0 : Nat) : Int)) = W7 := ⟨_, rfl⟩
    have k7 : ∀ b, b ≠ b0 → W7.heap[b]? = W.heap[b]? := fun b hne => by
      rw [← hW7, Below.heap_setCell _ _ _ _ hne, Below.heap_setCell _ _ _ _ hne, Below.heap_setCell _ _ _ _ hne, Below.heap_setCell _ _ _ _ hne, Below.heap_setCell _ _ _ _ hne, Below.heap_setCell _ _ _ _ hne, Below.heap_setCell _ _ _ _ hne]
    have h7 : W7.heap[b0]? = some (.cells (endCells me (b0 + 1) (b0 + 1 + 1) m0) 178 (0, 0)) := by
      rw [← hW7, heap_setCell_same (heap_setCell_same (heap_setCell_same (heap_setCell_same (heap_setCell_same (heap_setCell_same (heap_setCell_same HI.out.res _) _) _) _) _) _) _]
      simp [endCells]
    have b7 : Below w.heap.size w W7 := by
      rw [← hW7]
      exact ((((((HI.out.bel.setCell (by show w.heap.size ≤ b0; omega) _).setCell (by show w.heap.size ≤ b0; omega) _).setCell (by show w.heap.size ≤ b0; omega) _).setCell (by show w.heap.size ≤ b0; omega) _).setCell (by show w.heap.size ≤ b0; omega) _).setCell (by show w.heap.size ≤ b0; omega) _).setCell (by show w.heap.size ≤ b0; omega) _
    have hD7 : W7.heap[D]? = some (.deferred (some [])) := (k7 D (by omega)).trans hK
    have hl7 : (b0 + 1 + 1) < W7.heap.size := by have := (HI.out.m2.same (k7 _ (by omega))).lt; exact this
    rw [hW7]
    clear hW7 r0 r1 r2 r3 r4 r5 r6 e0 e1 e2 e3 e4 e5 e6 fz
    refine ⟨by simp, .inl ⟨_, _, rfl, run_takeDeferred hD7, ?_⟩⟩
    have k8 : ∀ b, b ≠ D → (W7.putObj D (.deferred none)).heap[b]? = W7.heap[b]? := fun b hne => World.putObj_heap_other hne
    have b8 : Below w.heap.size w (W7.putObj D (.deferred none)) := ⟨b7.os, b7.tape, b7.output, by rw [World.putObj_size]; exact b7.size, fun b hb => (k8 b (by omega)).trans (b7.block b hb)⟩
    have h8' := (k8 b0 (by omega)).trans h7
    have l8 : b0 + 1 + 1 < (W7.putObj D (.deferred none)).heap.size := by rw [World.putObj_size]; exact hl7
    have m81 : MapIs (W7.putObj D (.deferred none)) (b0 + 1) 8 (endsF .listen me (entsOf log h8 hok)) := (HI.out.m1.same ((k8 _ (by omega)).trans (k7 _ (by omega)))).mono (by rw [entsOf_length]; exact h8)
    have m82 : MapIs (W7.putObj D (.deferred none)) (b0 + 1 + 1) 8 (endsF .finWait me (entsOf log h8 hok)) := (HI.out.m2.same ((k8 _ (by omega)).trans (k7 _ (by omega)))).mono (by rw [entsOf_length]; exact h8)
    generalize W7.putObj D (.deferred none) = W8 at *
    have q0 : W8.cell? ⟨b0, 0, none⟩ = some (.map (some (b0 + 1))) := by rw [cell_of_heap h8']; rfl
    have q1 : W8.cell? ⟨b0, 1, none⟩ = some (.map (some (b0 + 1 + 1))) := by rw [cell_of_heap h8']; rfl
    have q2 : W8.cell? ⟨b0, 2, none⟩ = some (.int .i64 ((rc me 0 m0 : Nat) : Int)) := by rw [cell_of_heap h8']; rfl
    have q3 : W8.cell? ⟨b0, 3, none⟩ = some (.int .i64 ((rc me 1 m0 : Nat) : Int)) := by rw [cell_of_heap h8']; rfl
    have q4 : W8.cell? ⟨b0, 4, none⟩ = some (.int .i64 ((rc me 2 m0 : Nat) : Int)) := by rw [cell_of_heap h8']; rfl
    have q5 : W8.cell? ⟨b0, 5, none⟩ = some (.int .i64 ((rc me 3 m0 : Nat) : Int)) := by rw [cell_of_heap h8']; rfl
    have q6 : W8.cell? ⟨b0, 6, none⟩ = some (.int .i64 ((rc me 4 m0 : Nat) : Int)) := by rw [cell_of_heap h8']; rfl
    rw [hm0]
    refine ⟨.agg (endCells me (b0 + 1) (b0 + 1 + 1) m0), ?_, b0 + 1, b0 + 1 + 1, rfl, by omega, by omega, l8, m81, m82, b8⟩
    simp [results, Tryz.results90, go_sem, q0, q1, q2, q3, q4, q5, q6, endCells]
  case stop =>
    rintro D c pre W _ _ h _
    exact h.elim

end Go.Proofs.YtckmppkdpnhodaaGreatDoor
