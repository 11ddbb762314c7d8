/-
  Contract of cart.endsOf, entries of whatever replica: what ends what.
-/
import Derived.Test.YtckmppkdpnhodaaGreatDoorT05
import Derived.Test.YtckmppkdpnhodaaGreatDoorT11
import Derived.Deep.RegionHeld3
namespace Go.Proofs.YtckmppkdpnhodaaGreatDoor
set_option linter.unusedVariables false
set_option linter.unusedSimpArgs false
open Go.RowKit Go.Proofs Go.Shelf

attribute [local go_sem] Oper.semAt_some

/-- A reach as a value. -/
def Rc.val (r : Rc) : Value := ag5 r.a r.b r.c r.d r.e

/-- The commands of a kind on a word: what was known where they were done, together. -/
def endR (k : Kd) (pre : List En) (s : List UInt8) : Option Rc := pre.foldl (fun acc x => if x.c.k = k ∧ x.c.word.data.toList = s then some ((acc.getD Rc.zero).join x.ah) else acc) none
def noteR (pre : List En) : Rc := pre.foldl (fun m x => if x.c.k = .closeWait then m.join x.ah else m) Rc.zero

theorem endR_snoc (k : Kd) (pre : List En) (x : En) (s : List UInt8) : endR k (pre ++ [x]) s = if x.c.k = k ∧ x.c.word.data.toList = s then some (((endR k pre s).getD Rc.zero).join x.ah) else endR k pre s := by simp [endR]
theorem noteR_snoc (pre : List En) (x : En) : noteR (pre ++ [x]) = if x.c.k = .closeWait then (noteR pre).join x.ah else noteR pre := by simp [noteR]

def endsG (k : Kd) (pre : List En) : List UInt8 → Option Value := fun s => (endR k pre s).map Rc.val

theorem endsG_other (k : Kd) (pre : List En) (x : En) (h : x.c.k ≠ k) : endsG k (pre ++ [x]) = endsG k pre := by
  funext s; simp [endsG, endR_snoc, h]

theorem endsG_same (k : Kd) (pre : List En) (x : En) (h : x.c.k = k) : endsG k (pre ++ [x]) = fput (endsG k pre) x.c.word.data.toList (((endR k pre x.c.word.data.toList).getD Rc.zero).join x.ah).val := by
  funext s
  simp only [endsG, endR_snoc, fput, h, true_and]
  by_cases e : s = x.c.word.data.toList
  · subst e; simp
  · rw [if_neg (fun e' => e e'.symm), if_neg e]

theorem endsG_getD (k : Kd) (pre : List En) (s : List UInt8) : ((endsG k pre s).getD (.agg #[.int .i64 0, .int .i64 0, .int .i64 0, .int .i64 0, .int .i64 0])) = ((endR k pre s).getD Rc.zero).val := by
  cases h : endR k pre s with
  | none => simp [endsG, h, Rc.val, ag5, Rc.zero]
  | some m => simp [endsG, h]

theorem joinG (a b : Rc) (W : World) : Calls Tryz.prog 129 #[.agg #[.int .i64 (a.a : Int), .int .i64 (a.b : Int), .int .i64 (a.c : Int), .int .i64 (a.d : Int), .int .i64 (a.e : Int)], .agg #[.int .i64 (b.a : Int), .int .i64 (b.b : Int), .int .i64 (b.c : Int), .int .i64 (b.d : Int), .int .i64 (b.e : Int)]] W fun e w' =>
    e = .returned (a.join b).val ∧ Below W.heap.size W w' := join_any a.a a.b a.c a.d a.e b.a b.b b.c b.d b.e W

/-- The cells of the struct of what ends what. -/
def endCellsG (b1 b2 : Nat) (m : Rc) : Array Value :=
  #[.map (some b1), .map (some b2), .int .i64 (m.a : Int), .int .i64 (m.b : Int), .int .i64 (m.c : Int), .int .i64 (m.d : Int), .int .i64 (m.e : Int)]

structure EndG (b0 b1 b2 b3 : Nat) (w : World) (pre : List En) (W : World) : Prop where
  res : W.heap[b0]? = some (.cells #[.map none, .map none, .int .i64 0, .int .i64 0, .int .i64 0, .int .i64 0, .int .i64 0] 178 (0, 0))
  own : W.heap[b3]? = some (.cells (endCellsG b1 b2 (noteR pre)) 178 (0, 0))
  m1 : MapIs W b1 pre.length (endsG .listen pre)
  m2 : MapIs W b2 pre.length (endsG .finWait pre)
  bel : Below w.heap.size w W

theorem EndG.from {b0 b1 b2 b3 : Nat} {w : World} {B : Nat} (h0 : b0 < B) (h1 : b1 < B) (h2 : b2 < B) (h3 : b3 < B) (hw : w.heap.size ≤ B) : OwnFrom B (EndG b0 b1 b2 b3 w) := fun s W W' row hs hg hr => by
  have k : ∀ b, b < B → b < W.heap.size → W'.heap[b]? = W.heap[b]? := fun b hb hl => hg.block b hl (fun e => by have := (hr b e.symm).1; omega)
  refine ⟨(k b0 h0 (Array.getElem?_eq_some_iff.1 hs.res).1).trans hs.res, (k b3 h3 (Array.getElem?_eq_some_iff.1 hs.own).1).trans hs.own, hs.m1.same (k b1 h1 hs.m1.lt), hs.m2.same (k b2 h2 hs.m2.lt), ?_⟩
  exact hs.bel.grown hg hs.bel.size (fun r e => Nat.le_trans hw (hr r e).1)

theorem EndG.below {b0 b1 b2 b3 : Nat} {w : World} {pre : List En} {W W' : World} (hs : EndG b0 b1 b2 b3 w pre W) (hb : Below W.heap.size W W') : EndG b0 b1 b2 b3 w pre W' :=
  ⟨(hb.block _ (Array.getElem?_eq_some_iff.1 hs.res).1).trans hs.res, (hb.block _ (Array.getElem?_eq_some_iff.1 hs.own).1).trans hs.own, hs.m1.below hb, hs.m2.below hb, hs.bel.trans (hb.mono hs.bel.size)⟩

/-- One of the two maps has turned. -/
theorem EndG.turn1 {b0 : Nat} {w : World} {pre : List En} {x : En} {W w1 w2 : World} (hs : EndG b0 (b0 + 1) (b0 + 1 + 1) (b0 + 1 + 1 + 1) w pre W) (hw : w.heap.size = b0) (hb : Below W.heap.size W w1) (hg : w1.grownBy w2 (some (b0 + 1)))
    (hm : MapIs w2 (b0 + 1) (pre.length + 1) (endsG .listen (pre ++ [x]))) (h2 : endsG .finWait (pre ++ [x]) = endsG .finWait pre) (h3 : noteR (pre ++ [x]) = noteR pre) :
    EndG b0 (b0 + 1) (b0 + 1 + 1) (b0 + 1 + 1 + 1) w (pre ++ [x]) w2 := by
  have h1 := hs.below hb
  have k : ∀ b, b ≠ b0 + 1 → b < w1.heap.size → w2.heap[b]? = w1.heap[b]? := fun b hb hl => hg.block b hl (fun e => hb (by cases e; rfl))
  refine ⟨(k _ (by omega) (Array.getElem?_eq_some_iff.1 h1.res).1).trans h1.res, ?_, by rw [List.length_append]; exact hm, ?_, h1.bel.grown hg h1.bel.size (fun r e => by cases e; omega)⟩
  · rw [h3]; exact (k _ (by omega) (Array.getElem?_eq_some_iff.1 h1.own).1).trans h1.own
  · rw [h2, List.length_append]; exact (h1.m2.same (k _ (by omega) h1.m2.lt)).mono (by simp)

theorem EndG.turn2 {b0 : Nat} {w : World} {pre : List En} {x : En} {W w1 w2 : World} (hs : EndG b0 (b0 + 1) (b0 + 1 + 1) (b0 + 1 + 1 + 1) w pre W) (hw : w.heap.size = b0) (hb : Below W.heap.size W w1) (hg : w1.grownBy w2 (some (b0 + 1 + 1)))
    (hm : MapIs w2 (b0 + 1 + 1) (pre.length + 1) (endsG .finWait (pre ++ [x]))) (h2 : endsG .listen (pre ++ [x]) = endsG .listen pre) (h3 : noteR (pre ++ [x]) = noteR pre) :
    EndG b0 (b0 + 1) (b0 + 1 + 1) (b0 + 1 + 1 + 1) w (pre ++ [x]) w2 := by
  have h1 := hs.below hb
  have k : ∀ b, b ≠ b0 + 1 + 1 → b < w1.heap.size → w2.heap[b]? = w1.heap[b]? := fun b hb hl => hg.block b hl (fun e => hb (by cases e; rfl))
  refine ⟨(k _ (by omega) (Array.getElem?_eq_some_iff.1 h1.res).1).trans h1.res, ?_, ?_, by rw [List.length_append]; exact hm, h1.bel.grown hg h1.bel.size (fun r e => by cases e; omega)⟩
  · rw [h3]; exact (k _ (by omega) (Array.getElem?_eq_some_iff.1 h1.own).1).trans h1.own
  · rw [h2, List.length_append]; exact (h1.m1.same (k _ (by omega) h1.m1.lt)).mono (by simp)

/-- The notes have turned. -/
theorem EndG.noted {b0 : Nat} {w : World} {pre : List En} {x : En} {W w1 : World} (hs : EndG b0 (b0 + 1) (b0 + 1 + 1) (b0 + 1 + 1 + 1) w pre W) (hw : w.heap.size = b0) (hb : Below W.heap.size W w1)
    (h1 : endsG .listen (pre ++ [x]) = endsG .listen pre) (h2 : endsG .finWait (pre ++ [x]) = endsG .finWait pre) {m : Rc} (h3 : noteR (pre ++ [x]) = m) :
    EndG b0 (b0 + 1) (b0 + 1 + 1) (b0 + 1 + 1 + 1) w (pre ++ [x]) (((((w1.setCell ⟨b0 + 1 + 1 + 1, 2, none⟩ (.int .i64 (m.a : Int))).setCell ⟨b0 + 1 + 1 + 1, 3, none⟩ (.int .i64 (m.b : Int))).setCell ⟨b0 + 1 + 1 + 1, 4, none⟩ (.int .i64 (m.c : Int))).setCell ⟨b0 + 1 + 1 + 1, 5, none⟩ (.int .i64 (m.d : Int))).setCell ⟨b0 + 1 + 1 + 1, 6, none⟩ (.int .i64 (m.e : Int))) := by
  have hw1 := hs.below hb
  have k : ∀ b, b ≠ b0 + 1 + 1 + 1 → (((((w1.setCell ⟨b0 + 1 + 1 + 1, 2, none⟩ (.int .i64 (m.a : Int))).setCell ⟨b0 + 1 + 1 + 1, 3, none⟩ (.int .i64 (m.b : Int))).setCell ⟨b0 + 1 + 1 + 1, 4, none⟩ (.int .i64 (m.c : Int))).setCell ⟨b0 + 1 + 1 + 1, 5, none⟩ (.int .i64 (m.d : Int))).setCell ⟨b0 + 1 + 1 + 1, 6, none⟩ (.int .i64 (m.e : Int))).heap[b]? = w1.heap[b]? := fun b hne => by
    rw [Below.heap_setCell _ _ _ _ hne, Below.heap_setCell _ _ _ _ hne, Below.heap_setCell _ _ _ _ hne, Below.heap_setCell _ _ _ _ hne, Below.heap_setCell _ _ _ _ hne]
  refine ⟨(k _ (by omega)).trans hw1.res, ?_, ?_, ?_, ?_⟩
  · rw [heap_setCell_same (heap_setCell_same (heap_setCell_same (heap_setCell_same (heap_setCell_same hw1.own _) _) _) _) _, h3]
    simp [endCellsG]
  · rw [h1, List.length_append]; exact (hw1.m1.same (k _ (by omega))).mono (by simp)
  · rw [h2, List.length_append]; exact (hw1.m2.same (k _ (by omega))).mono (by simp)
  · exact ((((hw1.bel.setCell (by show w.heap.size ≤ b0 + 1 + 1 + 1; omega) _).setCell (by show w.heap.size ≤ b0 + 1 + 1 + 1; omega) _).setCell (by show w.heap.size ≤ b0 + 1 + 1 + 1; omega) _).setCell (by show w.heap.size ≤ b0 + 1 + 1 + 1; omega) _).setCell (by show w.heap.size ≤ b0 + 1 + 1 + 1; omega) _

/-- Nothing has turned. -/
theorem EndG.still {b0 b1 b2 b3 : Nat} {w : World} {pre : List En} {x : En} {W : World} (hs : EndG b0 b1 b2 b3 w pre W) (h1 : endsG .listen (pre ++ [x]) = endsG .listen pre) (h2 : endsG .finWait (pre ++ [x]) = endsG .finWait pre) (h3 : noteR (pre ++ [x]) = noteR pre) :
    EndG b0 b1 b2 b3 w (pre ++ [x]) W :=
  ⟨hs.res, by rw [h3]; exact hs.own, by rw [h1, List.length_append]; exact hs.m1.mono (by simp), by rw [h2, List.length_append]; exact hs.m2.mono (by simp), hs.bel⟩

set_option maxRecDepth 100000 in
set_option maxHeartbeats 8000000 in
theorem endsOfG (Bs : Nat) (ev : Value) (log : List En) (h8 : log.length ≤ 4294967296) (w : World) (hBs : w.cell? ⟨Bs, 0, none⟩ = some ev) (hev : ∀ b, ev.ownBlock = some b → b < w.heap.size) (hrow : w.ownsRow 0 122 10 ev log.length (enRow log)) :
    CallsIn Fence.wide 6 Tryz.prog 90 #[.func (.func 131) #[] #[.pointer (some ⟨Bs, 0, none⟩)]] w fun e W' =>
      ∃ b1 b2, e = .returned (.agg (endCellsG b1 b2 (noteR log))) ∧ w.heap.size ≤ b1 ∧ b1 < b2 ∧ b2 < W'.heap.size ∧ MapIs W' b1 log.length (endsG .listen log) ∧ MapIs W' b2 log.length (endsG .finWait log) ∧ Below w.heap.size w W' := by
  have hro : Fence.wide.round = none := rfl
  have h1 : 1 ≤ 6 := by omega
  have hmm := @run_makeMap Tryz.prog
  refine callsIn_of_wp_marks Tryz.func90 rfl trivial ?_ hro
  simp only [Tryz.ntmps90, List.size_toArray, List.length_cons, List.length_nil, Nat.reduceAdd, Nat.reduceSub, Array.replicate_succ, Array.replicate_zero, List.push_toArray, List.append_toArray, List.nil_append, List.cons_append]
  gi_wp2
  obtain ⟨W0, hW0⟩ : ∃ W0, (((w.alloc (.cells #[.map none, .map none, .int .i64 0, .int .i64 0, .int .i64 0, .int .i64 0, .int .i64 0] 178)).alloc (.map #[] 0)).alloc (.map #[] 0)).alloc (.cells #[.map (some (w.heap.size + 1)), .map (some (w.heap.size + 1 + 1)), .int .i64 0, .int .i64 0, .int .i64 0, .int .i64 0, .int .i64 0] 178) = W0 := ⟨_, rfl⟩
  have hsz : W0.heap.size = w.heap.size + 4 := by rw [← hW0]; simp
  have hB0 : Below w.heap.size w W0 := by rw [← hW0]; exact ((((Below.refl _ w).alloc (Nat.le_refl _) _).alloc (by simp) _).alloc (by simp; omega) _).alloc (by simp; omega) _
  have hI0 : EndG w.heap.size (w.heap.size + 1) (w.heap.size + 1 + 1) (w.heap.size + 1 + 1 + 1) w [] W0 := by
    refine ⟨?_, ?_, ?_, ?_, hB0⟩
    · rw [← hW0]
      exact (Below.heap_alloc _ _ _ (by simp; omega)).trans ((Below.heap_alloc _ _ _ (by simp; omega)).trans ((Below.heap_alloc _ _ _ (by simp)).trans (heap_alloc_new w _)))
    · rw [← hW0]
      have := heap_alloc_new (((w.alloc (.cells #[.map none, .map none, .int .i64 0, .int .i64 0, .int .i64 0, .int .i64 0, .int .i64 0] 178)).alloc (.map #[] 0)).alloc (.map #[] 0)) (.cells #[.map (some (w.heap.size + 1)), .map (some (w.heap.size + 1 + 1)), .int .i64 0, .int .i64 0, .int .i64 0, .int .i64 0, .int .i64 0] 178)
      simp only [World.size_alloc] at this
      simpa [endCellsG, noteR, Rc.zero] using this
    · have := MapIs.made (w.alloc (.cells #[.map none, .map none, .int .i64 0, .int .i64 0, .int .i64 0, .int .i64 0, .int .i64 0] 178))
      simp only [World.size_alloc] at this
      rw [← hW0]
      exact this.same ((Below.heap_alloc _ _ _ (by simp)).trans (Below.heap_alloc _ _ _ (by simp)))
    · have := MapIs.made ((w.alloc (.cells #[.map none, .map none, .int .i64 0, .int .i64 0, .int .i64 0, .int .i64 0, .int .i64 0] 178)).alloc (.map #[] 0))
      simp only [World.size_alloc] at this
      rw [← hW0]
      exact this.same (Below.heap_alloc _ _ _ (by simp))
  have hBs0 : W0.cell? ⟨Bs, 0, none⟩ = some ev := cell_below hB0 hBs
  have hrow0 : W0.ownsRow 0 122 10 ev log.length (enRow log) := (Upd.of_below (S := []) hB0).owns hrow (by simp)
  have hBl : Bs < w.heap.size := World.block_lt_of_cell? w _ hBs
  rw [hW0]
  clear hW0
  generalize hb0 : w.heap.size = b0 at *
  refine wpIn_rangeFunc_ownH hro h1 (gf := 131) (lb := #[.pointer (some ⟨Bs, 0, none⟩)]) rfl trivial (enters_of Tryz.func131 (by kernel_rfl) rfl)
    (valuesG (6 - 1) (by omega) Bs b0 ev log h8 W0 (by omega) (by omega) hBs0 hev hrow0) belowK_t (belowK_b (by omega)) (Below.refl _ _) (fun _ => rfl)
    (EndG b0 (b0 + 1) (b0 + 1 + 1) (b0 + 1 + 1 + 1) w) (fun _ _ _ => False) (EndG.from (by omega) (by omega) (by omega) (by omega) (by omega)) (fun _ _ _ _ _ hs _ _ => hs) hI0
    (fun x a' W => ∃ Bx, W0.heap.size ≤ Bx ∧ W.heap[Bx]? = some (.cells #[.int .i64 (x.org : Int), .int .i64 (x.seq : Int), .int .i64 (x.ah.a : Int), .int .i64 (x.ah.b : Int), .int .i64 (x.ah.c : Int), .int .i64 (x.ah.d : Int), .int .i64 (x.ah.e : Int), .int .i64 (x.c.k.num : Int), .string x.c.word, .int .i64 (x.c.count : Int)] 122 (0, 0)) ∧ a' = { tmps := #[.func (.func 131) #[] #[.pointer (some ⟨Bs, 0, none⟩)], undef, .pointer (some ⟨b0, 0, none⟩), .pointer (some ⟨b0 + 1 + 1 + 1, 0, none⟩), .pointer (some ⟨Bx, 0, none⟩), undef, .map (some (b0 + 1)), .map (some (b0 + 1 + 1)), .agg #[.map (some (b0 + 1)), .map (some (b0 + 1 + 1)), .int .i64 0, .int .i64 0, .int .i64 0, .int .i64 0, .int .i64 0], .func (.func 131) #[] #[.pointer (some ⟨Bs, 0, none⟩)], x.val, undef, undef, undef, undef, undef, undef, undef, undef, undef, undef, undef, undef, undef, undef, undef, undef, undef, undef, undef, undef, undef, undef, undef, undef, undef, undef, undef, undef, undef, undef, undef, undef, undef, undef, undef, undef, undef, undef, undef], defers := [] })
    ?hAx ?assign ?body ?done ?stop
  case hAx =>
    rintro x a' _ W W' row ⟨Bx, q1, q2, q3⟩ hg hr
    refine ⟨Bx, q1, (hg.block Bx (Array.getElem?_eq_some_iff.1 q2).1 fun e => ?_).trans q2, q3⟩
    obtain ⟨-, o, ho, hc⟩ := hr Bx e.symm
    rw [q2] at ho
    cases ho
    cases hc
  case assign =>
    intro l pre x W K hI hK
    simp only [En.val]
    gi_wp2
    have h3l := (Array.getElem?_eq_some_iff.1 hI.own).1
    exact hK _ _ ((KeepsOthers.alloc _ _).from _) ((Below.refl _ W).alloc (by omega) _) (hI.below ((Below.refl _ W).alloc (Nat.le_refl _) _)) ⟨W.heap.size, by omega, heap_alloc_new W _, rfl⟩
  case body =>
    rintro l pre x a' W hl ⟨r, hr⟩ hI ⟨Bx, q1, q2, rfl⟩ hlt
    have hd : 1 ≤ 6 - 1 - 1 := by omega
    have hmx : Tryz.prog.follows .mixedOrders = true := by kernel_rfl
    have c2 : W.cell? ⟨Bx, 2, none⟩ = some (.int .i64 (x.ah.a : Int)) := by rw [cell_of_heap q2]; rfl
    have c3 : W.cell? ⟨Bx, 3, none⟩ = some (.int .i64 (x.ah.b : Int)) := by rw [cell_of_heap q2]; rfl
    have c4 : W.cell? ⟨Bx, 4, none⟩ = some (.int .i64 (x.ah.c : Int)) := by rw [cell_of_heap q2]; rfl
    have c5 : W.cell? ⟨Bx, 5, none⟩ = some (.int .i64 (x.ah.d : Int)) := by rw [cell_of_heap q2]; rfl
    have c6 : W.cell? ⟨Bx, 6, none⟩ = some (.int .i64 (x.ah.e : Int)) := by rw [cell_of_heap q2]; rfl
    have c7 : W.cell? ⟨Bx, 7, none⟩ = some (.int .i64 (x.c.k.num : Int)) := by rw [cell_of_heap q2]; rfl
    have c8 : W.cell? ⟨Bx, 8, none⟩ = some (.string x.c.word) := by rw [cell_of_heap q2]; rfl
    have d0 : W.cell? ⟨b0 + 1 + 1 + 1, 0, none⟩ = some (.map (some (b0 + 1))) := by rw [cell_of_heap hI.own]; rfl
    have d1 : W.cell? ⟨b0 + 1 + 1 + 1, 1, none⟩ = some (.map (some (b0 + 1 + 1))) := by rw [cell_of_heap hI.own]; rfl
    have hw8 : x.c.word.size ≤ maxLen := by
      have := x.hc.word
      simp only [wordB, Bool.and_eq_true, decide_eq_true_eq] at this; unfold maxLen; omega
    cases hk : x.c.k with
    | closed =>
      rw [hk] at c7
      simp only [Kd.num] at c7
      have HI : Hid (EndG b0 (b0 + 1) (b0 + 1 + 1) (b0 + 1 + 1 + 1) w (pre ++ [x]) W) := hI.still (endsG_other .listen pre x (by rw [hk]; decide)) (endsG_other .finWait pre x (by rw [hk]; decide)) (by rw [noteR_snoc, if_neg (by rw [hk]; decide)])
      clear hI hrow hrow0 hBs hBs0 hw8 hmm hev
      gi_wp2
      exact ⟨KeepsFrom.refl _ _, Below.refl _ _, HI.out⟩
    | established =>
      rw [hk] at c7
      simp only [Kd.num] at c7
      have HI : Hid (EndG b0 (b0 + 1) (b0 + 1 + 1) (b0 + 1 + 1 + 1) w (pre ++ [x]) W) := hI.still (endsG_other .listen pre x (by rw [hk]; decide)) (endsG_other .finWait pre x (by rw [hk]; decide)) (by rw [noteR_snoc, if_neg (by rw [hk]; decide)])
      clear hI hrow hrow0 hBs hBs0 hw8 hmm hev
      gi_wp2
      exact ⟨KeepsFrom.refl _ _, Below.refl _ _, HI.out⟩
    | listen =>
      rw [hk] at c7
      simp only [Kd.num] at c7
      have hlk : (Instr.lookup 176 (.map (some (b0 + 1))) (.string x.c.word) false).run Tryz.prog W.drew = .ok (.agg #[.int .i64 (((endR .listen pre x.c.word.data.toList).getD Rc.zero).a : Int), .int .i64 (((endR .listen pre x.c.word.data.toList).getD Rc.zero).b : Int), .int .i64 (((endR .listen pre x.c.word.data.toList).getD Rc.zero).c : Int), .int .i64 (((endR .listen pre x.c.word.data.toList).getD Rc.zero).d : Int), .int .i64 (((endR .listen pre x.c.word.data.toList).getD Rc.zero).e : Int)]) W.drew := by
        have := (hI.m1.same (w' := W.drew) rfl).look Tryz.underlying176 (Tryz.zeroValue104 W.drew) x.c.word hw8
        rw [this]
        have e := endsG_getD .listen pre x.c.word.data.toList
        simp only [Rc.val, ag5] at e
        rw [← e]
      have HF : Hid (endsG .listen (pre ++ [x]) = fput (endsG .listen pre) x.c.word.data.toList ((((endR .listen pre x.c.word.data.toList).getD Rc.zero).join x.ah).val)) := endsG_same .listen pre x hk
      have HF2 : Hid (endsG .finWait (pre ++ [x]) = endsG .finWait pre) := endsG_other .finWait pre x (by rw [hk]; decide)
      have HF3 : Hid (noteR (pre ++ [x]) = noteR pre) := by show _ = _; rw [noteR_snoc, if_neg (by rw [hk]; decide)]
      have HI : Hid (EndG b0 (b0 + 1) (b0 + 1 + 1) (b0 + 1 + 1 + 1) w pre W) := hI
      have HW8 : Hid (x.c.word.size ≤ maxLen) := hw8
      have hlp : pre.length < maxLen := by unfold maxLen; omega
      have HJ : Hid (∀ W', Calls Tryz.prog 129 #[.agg #[.int .i64 (((endR .listen pre x.c.word.data.toList).getD Rc.zero).a : Int), .int .i64 (((endR .listen pre x.c.word.data.toList).getD Rc.zero).b : Int), .int .i64 (((endR .listen pre x.c.word.data.toList).getD Rc.zero).c : Int), .int .i64 (((endR .listen pre x.c.word.data.toList).getD Rc.zero).d : Int), .int .i64 (((endR .listen pre x.c.word.data.toList).getD Rc.zero).e : Int)], .agg #[.int .i64 (x.ah.a : Int), .int .i64 (x.ah.b : Int), .int .i64 (x.ah.c : Int), .int .i64 (x.ah.d : Int), .int .i64 (x.ah.e : Int)]] W' fun e w' => e = .returned ((((endR .listen pre x.c.word.data.toList).getD Rc.zero).join x.ah).val) ∧ Below W'.heap.size W' w') := fun W' => joinG _ _ W'
      have HL : Hid (∀ w1, Below W.heap.size W w1 → ∃ w2, (Instr.mapUpdate 176 (.map (some (b0 + 1))) (.string x.c.word) ((((endR .listen pre x.c.word.data.toList).getD Rc.zero).join x.ah).val)).run Tryz.prog w1 = .ok () w2 ∧ MapIs w2 (b0 + 1) (pre.length + 1) (endsG .listen (pre ++ [x])) ∧ w1.grownBy w2 (some (b0 + 1))) := fun w1 hb => by
        rw [HF.out]
        exact (HI.out.m1.below hb).put Tryz.underlying176 hlp x.c.word HW8.out _
      clear hI hrow hrow0 hBs hBs0 hw8 hmm hev
      generalize (endR .listen pre x.c.word.data.toList).getD Rc.zero = m0 at *
      gi_wp2
      have hS : (fun w' : World => w'.cell? ⟨b0 + 1 + 1 + 1, 0, none⟩ = some (.map (some (b0 + 1))) ∧ w'.cell? ⟨Bx, 2, none⟩ = some (.int .i64 (x.ah.a : Int)) ∧ w'.cell? ⟨Bx, 3, none⟩ = some (.int .i64 (x.ah.b : Int)) ∧ w'.cell? ⟨Bx, 4, none⟩ = some (.int .i64 (x.ah.c : Int)) ∧ w'.cell? ⟨Bx, 5, none⟩ = some (.int .i64 (x.ah.d : Int)) ∧ w'.cell? ⟨Bx, 6, none⟩ = some (.int .i64 (x.ah.e : Int))) W.drew := ⟨d0, c2, c3, c4, c5, c6⟩
      refine regionIn_held (S := fun w' : World => w'.cell? ⟨b0 + 1 + 1 + 1, 0, none⟩ = some (.map (some (b0 + 1))) ∧ w'.cell? ⟨Bx, 2, none⟩ = some (.int .i64 (x.ah.a : Int)) ∧ w'.cell? ⟨Bx, 3, none⟩ = some (.int .i64 (x.ah.b : Int)) ∧ w'.cell? ⟨Bx, 4, none⟩ = some (.int .i64 (x.ah.c : Int)) ∧ w'.cell? ⟨Bx, 5, none⟩ = some (.int .i64 (x.ah.d : Int)) ∧ w'.cell? ⟨Bx, 6, none⟩ = some (.int .i64 (x.ah.e : Int))) hmx (by rintro ⟨a, w, h⟩; exact h) (by kernel_rfl) ?_
      refine wpAnyH_take (i := 0) (v := (.pointer (some ⟨b0 + 1 + 1 + 1, 0, none⟩))) rfl (by kernel_rfl) (by kernel_rfl) (by kernel_rfl) (fun _ _ _ h => h) (Or.inl ⟨by rfl, ?_⟩) hS ?_
      · intro w hSw; obtain ⟨s0, s2, s3, s4, s5, s6⟩ := hSw; go_simp
      dsimp only [List.getElem_toArray, List.getElem_cons_zero, List.getElem_cons_succ]
      simp only [Act.put, List.setIfInBounds_toArray, List.set_cons_zero, List.set_cons_succ]
      refine wpAnyH_take (i := 1) (v := (.map (some (b0 + 1)))) rfl (by kernel_rfl) (by kernel_rfl) (by kernel_rfl) (fun _ _ _ h => h) (Or.inl ⟨by rfl, ?_⟩) hS ?_
      · intro w hSw; obtain ⟨s0, s2, s3, s4, s5, s6⟩ := hSw; go_simp
      dsimp only [List.getElem_toArray, List.getElem_cons_zero, List.getElem_cons_succ]
      simp only [Act.put, List.setIfInBounds_toArray, List.set_cons_zero, List.set_cons_succ]
      refine wpAnyH_take (i := 2) (v := (.string x.c.word)) rfl (by kernel_rfl) (by kernel_rfl) (by kernel_rfl) (fun _ _ _ h => h) (Or.inl ⟨by rfl, ?_⟩) hS ?_
      · intro w hSw; obtain ⟨s0, s2, s3, s4, s5, s6⟩ := hSw; go_simp
      dsimp only [List.getElem_toArray, List.getElem_cons_zero, List.getElem_cons_succ]
      simp only [Act.put, List.setIfInBounds_toArray, List.set_cons_zero, List.set_cons_succ]
      refine wpAnyH_take (i := 3) (v := (.pointer (some ⟨b0 + 1 + 1 + 1, 0, none⟩))) rfl (by kernel_rfl) (by kernel_rfl) (by kernel_rfl) (fun _ _ _ h => h) (Or.inl ⟨by rfl, ?_⟩) hS ?_
      · intro w hSw; obtain ⟨s0, s2, s3, s4, s5, s6⟩ := hSw; go_simp
      dsimp only [List.getElem_toArray, List.getElem_cons_zero, List.getElem_cons_succ]
      simp only [Act.put, List.setIfInBounds_toArray, List.set_cons_zero, List.set_cons_succ]
      refine wpAnyH_take (i := 4) (v := (.map (some (b0 + 1)))) rfl (by kernel_rfl) (by kernel_rfl) (by kernel_rfl) (fun _ _ _ h => h) (Or.inl ⟨by rfl, ?_⟩) hS ?_
      · intro w hSw; obtain ⟨s0, s2, s3, s4, s5, s6⟩ := hSw; go_simp
      dsimp only [List.getElem_toArray, List.getElem_cons_zero, List.getElem_cons_succ]
      simp only [Act.put, List.setIfInBounds_toArray, List.set_cons_zero, List.set_cons_succ]
      refine wpAnyH_take (i := 5) (v := (.string x.c.word)) rfl (by kernel_rfl) (by kernel_rfl) (by kernel_rfl) (fun _ _ _ h => h) (Or.inl ⟨by rfl, ?_⟩) hS ?_
      · intro w hSw; obtain ⟨s0, s2, s3, s4, s5, s6⟩ := hSw; go_simp
      dsimp only [List.getElem_toArray, List.getElem_cons_zero, List.getElem_cons_succ]
      simp only [Act.put, List.setIfInBounds_toArray, List.set_cons_zero, List.set_cons_succ]
      refine wpAnyH_take (i := 7) (v := (.pointer (some ⟨Bx, 2, none⟩))) rfl (by kernel_rfl) (by kernel_rfl) (by kernel_rfl) (fun _ _ _ h => h) (Or.inl ⟨by rfl, ?_⟩) hS ?_
      · intro w hSw; obtain ⟨s0, s2, s3, s4, s5, s6⟩ := hSw; go_simp
      dsimp only [List.getElem_toArray, List.getElem_cons_zero, List.getElem_cons_succ]
      simp only [Act.put, List.setIfInBounds_toArray, List.set_cons_zero, List.set_cons_succ]
      refine wpAnyH_take (i := 8) (v := (.agg #[.int .i64 (x.ah.a : Int), .int .i64 (x.ah.b : Int), .int .i64 (x.ah.c : Int), .int .i64 (x.ah.d : Int), .int .i64 (x.ah.e : Int)])) rfl (by kernel_rfl) (by kernel_rfl) (by kernel_rfl) (fun _ _ _ h => h) (Or.inl ⟨by rfl, ?_⟩) hS ?_
      · intro w hSw; obtain ⟨s0, s2, s3, s4, s5, s6⟩ := hSw; go_simp
      dsimp only [List.getElem_toArray, List.getElem_cons_zero, List.getElem_cons_succ]
      simp only [Act.put, List.setIfInBounds_toArray, List.set_cons_zero, List.set_cons_succ]
      refine wpAnyH_ready (rs := [6]) (by kernel_rfl) (by simp) ?_
      refine AllReadyH.cons rfl (fun K hK => ?_) AllReadyH.nil
      rw [if_pos (by rfl)]
      dsimp only [List.getElem_toArray, List.getElem_cons_zero, List.getElem_cons_succ]
      go_simp
      refine hK.out _ _ hS (fun _ => ?_)
      clear hK K
      try simp only [Act.put, List.setIfInBounds_toArray, List.set_cons_zero, List.set_cons_succ]
      refine wpAnyH_ready (rs := [9]) (by kernel_rfl) (by simp) ?_
      refine AllReadyH.cons rfl (fun K hK => ?_) AllReadyH.nil
      rw [if_pos (by rfl)]
      dsimp only [List.getElem_toArray, List.getElem_cons_zero, List.getElem_cons_succ]
      go_simp
      refine (HJ.out _).mono ?_
      rintro e w1 ⟨rfl, hb1⟩
      have hbw : Below W.heap.size W w1 := ((Below.refl _ W).drew).trans hb1
      obtain ⟨w2, hup, hmp, hgr⟩ := HL.out w1 hbw
      refine hK.out _ _ ⟨cell_below hbw d0, cell_below hbw c2, cell_below hbw c3, cell_below hbw c4, cell_below hbw c5, cell_below hbw c6⟩ (fun _ => ?_)
      clear hK K
      try simp only [Act.put, List.setIfInBounds_toArray, List.set_cons_zero, List.set_cons_succ]
      refine wpAnyH_ready (rs := [10]) (by kernel_rfl) (by simp) ?_
      refine AllReadyH.cons rfl (fun K hK => ?_) AllReadyH.nil
      rw [if_pos (by rfl)]
      dsimp only [List.getElem_toArray, List.getElem_cons_zero, List.getElem_cons_succ]
      go_simp
      have k2 : ∀ {a : Addr} {v : Value}, w1.cell? a = some v → a.block ≠ b0 + 1 → w2.cell? a = some v := fun {a v} hc hne => (World.cell?_of_block (hgr.block a.block (World.block_lt_of_cell? w1 a hc) (fun e => hne (Option.some.inj e)))).trans hc
      have hBx : Bx ≠ b0 + 1 := by omega
      refine hK.out _ _ ⟨k2 (cell_below hbw d0) (by first | (simp; done) | (simp; omega)), k2 (cell_below hbw c2) hBx, k2 (cell_below hbw c3) hBx, k2 (cell_below hbw c4) hBx, k2 (cell_below hbw c5) hBx, k2 (cell_below hbw c6) hBx⟩ (fun _ => ?_)
      clear hK K
      refine wpAnyH_done (by kernel_rfl) ?_ _
      gi_wp2
      have hbl := HI.out.bel.size
      exact ⟨((keeps_below hbw).from _).trans (KeepsFrom.of_grownBy hgr (fun j e => by cases e; omega)), ((hbw.mono (by omega))).trans ((Below.refl _ w1).grown hgr (by have := hbw.size; omega) (fun r e => by cases e; omega)), HI.out.turn1 hb0 hbw hgr hmp HF2.out HF3.out⟩
    | finWait =>
      rw [hk] at c7
      simp only [Kd.num] at c7
      have hlk : (Instr.lookup 176 (.map (some (b0 + 1 + 1))) (.string x.c.word) false).run Tryz.prog W.drew = .ok (.agg #[.int .i64 (((endR .finWait pre x.c.word.data.toList).getD Rc.zero).a : Int), .int .i64 (((endR .finWait pre x.c.word.data.toList).getD Rc.zero).b : Int), .int .i64 (((endR .finWait pre x.c.word.data.toList).getD Rc.zero).c : Int), .int .i64 (((endR .finWait pre x.c.word.data.toList).getD Rc.zero).d : Int), .int .i64 (((endR .finWait pre x.c.word.data.toList).getD Rc.zero).e : Int)]) W.drew := by
        have := (hI.m2.same (w' := W.drew) rfl).look Tryz.underlying176 (Tryz.zeroValue104 W.drew) x.c.word hw8
        rw [this]
        have e := endsG_getD .finWait pre x.c.word.data.toList
        simp only [Rc.val, ag5] at e
        rw [← e]
      have HF : Hid (endsG .finWait (pre ++ [x]) = fput (endsG .finWait pre) x.c.word.data.toList ((((endR .finWait pre x.c.word.data.toList).getD Rc.zero).join x.ah).val)) := endsG_same .finWait pre x hk
      have HF2 : Hid (endsG .listen (pre ++ [x]) = endsG .listen pre) := endsG_other .listen pre x (by rw [hk]; decide)
      have HF3 : Hid (noteR (pre ++ [x]) = noteR pre) := by show _ = _; rw [noteR_snoc, if_neg (by rw [hk]; decide)]
      have HI : Hid (EndG b0 (b0 + 1) (b0 + 1 + 1) (b0 + 1 + 1 + 1) w pre W) := hI
      have HW8 : Hid (x.c.word.size ≤ maxLen) := hw8
      have hlp : pre.length < maxLen := by unfold maxLen; omega
      have HJ : Hid (∀ W', Calls Tryz.prog 129 #[.agg #[.int .i64 (((endR .finWait pre x.c.word.data.toList).getD Rc.zero).a : Int), .int .i64 (((endR .finWait pre x.c.word.data.toList).getD Rc.zero).b : Int), .int .i64 (((endR .finWait pre x.c.word.data.toList).getD Rc.zero).c : Int), .int .i64 (((endR .finWait pre x.c.word.data.toList).getD Rc.zero).d : Int), .int .i64 (((endR .finWait pre x.c.word.data.toList).getD Rc.zero).e : Int)], .agg #[.int .i64 (x.ah.a : Int), .int .i64 (x.ah.b : Int), .int .i64 (x.ah.c : Int), .int .i64 (x.ah.d : Int), .int .i64 (x.ah.e : Int)]] W' fun e w' => e = .returned ((((endR .finWait pre x.c.word.data.toList).getD Rc.zero).join x.ah).val) ∧ Below W'.heap.size W' w') := fun W' => joinG _ _ W'
      have HL : Hid (∀ w1, Below W.heap.size W w1 → ∃ w2, (Instr.mapUpdate 176 (.map (some (b0 + 1 + 1))) (.string x.c.word) ((((endR .finWait pre x.c.word.data.toList).getD Rc.zero).join x.ah).val)).run Tryz.prog w1 = .ok () w2 ∧ MapIs w2 (b0 + 1 + 1) (pre.length + 1) (endsG .finWait (pre ++ [x])) ∧ w1.grownBy w2 (some (b0 + 1 + 1))) := fun w1 hb => by
        rw [HF.out]
        exact (HI.out.m2.below hb).put Tryz.underlying176 hlp x.c.word HW8.out _
      clear hI hrow hrow0 hBs hBs0 hw8 hmm hev
      generalize (endR .finWait pre x.c.word.data.toList).getD Rc.zero = m0 at *
      gi_wp2
      have hS : (fun w' : World => w'.cell? ⟨b0 + 1 + 1 + 1, 1, none⟩ = some (.map (some (b0 + 1 + 1))) ∧ w'.cell? ⟨Bx, 2, none⟩ = some (.int .i64 (x.ah.a : Int)) ∧ w'.cell? ⟨Bx, 3, none⟩ = some (.int .i64 (x.ah.b : Int)) ∧ w'.cell? ⟨Bx, 4, none⟩ = some (.int .i64 (x.ah.c : Int)) ∧ w'.cell? ⟨Bx, 5, none⟩ = some (.int .i64 (x.ah.d : Int)) ∧ w'.cell? ⟨Bx, 6, none⟩ = some (.int .i64 (x.ah.e : Int))) W.drew := ⟨d1, c2, c3, c4, c5, c6⟩
      refine regionIn_held (S := fun w' : World => w'.cell? ⟨b0 + 1 + 1 + 1, 1, none⟩ = some (.map (some (b0 + 1 + 1))) ∧ w'.cell? ⟨Bx, 2, none⟩ = some (.int .i64 (x.ah.a : Int)) ∧ w'.cell? ⟨Bx, 3, none⟩ = some (.int .i64 (x.ah.b : Int)) ∧ w'.cell? ⟨Bx, 4, none⟩ = some (.int .i64 (x.ah.c : Int)) ∧ w'.cell? ⟨Bx, 5, none⟩ = some (.int .i64 (x.ah.d : Int)) ∧ w'.cell? ⟨Bx, 6, none⟩ = some (.int .i64 (x.ah.e : Int))) hmx (by rintro ⟨a, w, h⟩; exact h) (by kernel_rfl) ?_
      refine wpAnyH_take (i := 0) (v := (.pointer (some ⟨b0 + 1 + 1 + 1, 1, none⟩))) rfl (by kernel_rfl) (by kernel_rfl) (by kernel_rfl) (fun _ _ _ h => h) (Or.inl ⟨by rfl, ?_⟩) hS ?_
      · intro w hSw; obtain ⟨s0, s2, s3, s4, s5, s6⟩ := hSw; go_simp
      dsimp only [List.getElem_toArray, List.getElem_cons_zero, List.getElem_cons_succ]
      simp only [Act.put, List.setIfInBounds_toArray, List.set_cons_zero, List.set_cons_succ]
      refine wpAnyH_take (i := 1) (v := (.map (some (b0 + 1 + 1)))) rfl (by kernel_rfl) (by kernel_rfl) (by kernel_rfl) (fun _ _ _ h => h) (Or.inl ⟨by rfl, ?_⟩) hS ?_
      · intro w hSw; obtain ⟨s0, s2, s3, s4, s5, s6⟩ := hSw; go_simp
      dsimp only [List.getElem_toArray, List.getElem_cons_zero, List.getElem_cons_succ]
      simp only [Act.put, List.setIfInBounds_toArray, List.set_cons_zero, List.set_cons_succ]
      refine wpAnyH_take (i := 2) (v := (.string x.c.word)) rfl (by kernel_rfl) (by kernel_rfl) (by kernel_rfl) (fun _ _ _ h => h) (Or.inl ⟨by rfl, ?_⟩) hS ?_
      · intro w hSw; obtain ⟨s0, s2, s3, s4, s5, s6⟩ := hSw; go_simp
      dsimp only [List.getElem_toArray, List.getElem_cons_zero, List.getElem_cons_succ]
      simp only [Act.put, List.setIfInBounds_toArray, List.set_cons_zero, List.set_cons_succ]
      refine wpAnyH_take (i := 3) (v := (.pointer (some ⟨b0 + 1 + 1 + 1, 1, none⟩))) rfl (by kernel_rfl) (by kernel_rfl) (by kernel_rfl) (fun _ _ _ h => h) (Or.inl ⟨by rfl, ?_⟩) hS ?_
      · intro w hSw; obtain ⟨s0, s2, s3, s4, s5, s6⟩ := hSw; go_simp
      dsimp only [List.getElem_toArray, List.getElem_cons_zero, List.getElem_cons_succ]
      simp only [Act.put, List.setIfInBounds_toArray, List.set_cons_zero, List.set_cons_succ]
      refine wpAnyH_take (i := 4) (v := (.map (some (b0 + 1 + 1)))) rfl (by kernel_rfl) (by kernel_rfl) (by kernel_rfl) (fun _ _ _ h => h) (Or.inl ⟨by rfl, ?_⟩) hS ?_
      · intro w hSw; obtain ⟨s0, s2, s3, s4, s5, s6⟩ := hSw; go_simp
      dsimp only [List.getElem_toArray, List.getElem_cons_zero, List.getElem_cons_succ]
      simp only [Act.put, List.setIfInBounds_toArray, List.set_cons_zero, List.set_cons_succ]
      refine wpAnyH_take (i := 5) (v := (.string x.c.word)) rfl (by kernel_rfl) (by kernel_rfl) (by kernel_rfl) (fun _ _ _ h => h) (Or.inl ⟨by rfl, ?_⟩) hS ?_
      · intro w hSw; obtain ⟨s0, s2, s3, s4, s5, s6⟩ := hSw; go_simp
      dsimp only [List.getElem_toArray, List.getElem_cons_zero, List.getElem_cons_succ]
      simp only [Act.put, List.setIfInBounds_toArray, List.set_cons_zero, List.set_cons_succ]
      refine wpAnyH_take (i := 7) (v := (.pointer (some ⟨Bx, 2, none⟩))) rfl (by kernel_rfl) (by kernel_rfl) (by kernel_rfl) (fun _ _ _ h => h) (Or.inl ⟨by rfl, ?_⟩) hS ?_
      · intro w hSw; obtain ⟨s0, s2, s3, s4, s5, s6⟩ := hSw; go_simp
      dsimp only [List.getElem_toArray, List.getElem_cons_zero, List.getElem_cons_succ]
      simp only [Act.put, List.setIfInBounds_toArray, List.set_cons_zero, List.set_cons_succ]
      refine wpAnyH_take (i := 8) (v := (.agg #[.int .i64 (x.ah.a : Int), .int .i64 (x.ah.b : Int), .int .i64 (x.ah.c : Int), .int .i64 (x.ah.d : Int), .int .i64 (x.ah.e : Int)])) rfl (by kernel_rfl) (by kernel_rfl) (by kernel_rfl) (fun _ _ _ h => h) (Or.inl ⟨by rfl, ?_⟩) hS ?_
      · intro w hSw; obtain ⟨s0, s2, s3, s4, s5, s6⟩ := hSw; go_simp
      dsimp only [List.getElem_toArray, List.getElem_cons_zero, List.getElem_cons_succ]
      simp only [Act.put, List.setIfInBounds_toArray, List.set_cons_zero, List.set_cons_succ]
      refine wpAnyH_ready (rs := [6]) (by kernel_rfl) (by simp) ?_
      refine AllReadyH.cons rfl (fun K hK => ?_) AllReadyH.nil
      rw [if_pos (by rfl)]
      dsimp only [List.getElem_toArray, List.getElem_cons_zero, List.getElem_cons_succ]
      go_simp
      refine hK.out _ _ hS (fun _ => ?_)
      clear hK K
      try simp only [Act.put, List.setIfInBounds_toArray, List.set_cons_zero, List.set_cons_succ]
      refine wpAnyH_ready (rs := [9]) (by kernel_rfl) (by simp) ?_
      refine AllReadyH.cons rfl (fun K hK => ?_) AllReadyH.nil
      rw [if_pos (by rfl)]
      dsimp only [List.getElem_toArray, List.getElem_cons_zero, List.getElem_cons_succ]
      go_simp
      refine (HJ.out _).mono ?_
      rintro e w1 ⟨rfl, hb1⟩
      have hbw : Below W.heap.size W w1 := ((Below.refl _ W).drew).trans hb1
      obtain ⟨w2, hup, hmp, hgr⟩ := HL.out w1 hbw
      refine hK.out _ _ ⟨cell_below hbw d1, cell_below hbw c2, cell_below hbw c3, cell_below hbw c4, cell_below hbw c5, cell_below hbw c6⟩ (fun _ => ?_)
      clear hK K
      try simp only [Act.put, List.setIfInBounds_toArray, List.set_cons_zero, List.set_cons_succ]
      refine wpAnyH_ready (rs := [10]) (by kernel_rfl) (by simp) ?_
      refine AllReadyH.cons rfl (fun K hK => ?_) AllReadyH.nil
      rw [if_pos (by rfl)]
      dsimp only [List.getElem_toArray, List.getElem_cons_zero, List.getElem_cons_succ]
      go_simp
      have k2 : ∀ {a : Addr} {v : Value}, w1.cell? a = some v → a.block ≠ b0 + 1 + 1 → w2.cell? a = some v := fun {a v} hc hne => (World.cell?_of_block (hgr.block a.block (World.block_lt_of_cell? w1 a hc) (fun e => hne (Option.some.inj e)))).trans hc
      have hBx : Bx ≠ b0 + 1 + 1 := by omega
      refine hK.out _ _ ⟨k2 (cell_below hbw d1) (by first | (simp; done) | (simp; omega)), k2 (cell_below hbw c2) hBx, k2 (cell_below hbw c3) hBx, k2 (cell_below hbw c4) hBx, k2 (cell_below hbw c5) hBx, k2 (cell_below hbw c6) hBx⟩ (fun _ => ?_)
      clear hK K
      refine wpAnyH_done (by kernel_rfl) ?_ _
      gi_wp2
      have hbl := HI.out.bel.size
      exact ⟨((keeps_below hbw).from _).trans (KeepsFrom.of_grownBy hgr (fun j e => by cases e; omega)), ((hbw.mono (by omega))).trans ((Below.refl _ w1).grown hgr (by have := hbw.size; omega) (fun r e => by cases e; omega)), HI.out.turn2 hb0 hbw hgr hmp HF2.out HF3.out⟩
    | closeWait =>
      rw [hk] at c7
      simp only [Kd.num] at c7
      have HI : Hid (EndG b0 (b0 + 1) (b0 + 1 + 1) (b0 + 1 + 1 + 1) w pre W) := hI
      have d2 : W.cell? ⟨b0 + 1 + 1 + 1, 2, none⟩ = some (.int .i64 ((noteR pre).a : Int)) := by rw [cell_of_heap hI.own]; rfl
      have d3 : W.cell? ⟨b0 + 1 + 1 + 1, 3, none⟩ = some (.int .i64 ((noteR pre).b : Int)) := by rw [cell_of_heap hI.own]; rfl
      have d4 : W.cell? ⟨b0 + 1 + 1 + 1, 4, none⟩ = some (.int .i64 ((noteR pre).c : Int)) := by rw [cell_of_heap hI.own]; rfl
      have d5 : W.cell? ⟨b0 + 1 + 1 + 1, 5, none⟩ = some (.int .i64 ((noteR pre).d : Int)) := by rw [cell_of_heap hI.own]; rfl
      have d6 : W.cell? ⟨b0 + 1 + 1 + 1, 6, none⟩ = some (.int .i64 ((noteR pre).e : Int)) := by rw [cell_of_heap hI.own]; rfl
      have HF1 : Hid (endsG .listen (pre ++ [x]) = endsG .listen pre) := endsG_other .listen pre x (by rw [hk]; decide)
      have HF2 : Hid (endsG .finWait (pre ++ [x]) = endsG .finWait pre) := endsG_other .finWait pre x (by rw [hk]; decide)
      have HF3 : Hid (noteR (pre ++ [x]) = (noteR pre).join x.ah) := by show _ = _; rw [noteR_snoc, if_pos hk]
      clear hI hrow hrow0 hBs hBs0 hw8 hmm hev
      have HM : Hid (∃ m0, noteR pre = m0) := ⟨_, rfl⟩
      generalize hm0 : noteR pre = m0 at *
      have HJ : Hid (∀ W', Calls Tryz.prog 129 #[.agg #[.int .i64 (m0.a : Int), .int .i64 (m0.b : Int), .int .i64 (m0.c : Int), .int .i64 (m0.d : Int), .int .i64 (m0.e : Int)], .agg #[.int .i64 (x.ah.a : Int), .int .i64 (x.ah.b : Int), .int .i64 (x.ah.c : Int), .int .i64 (x.ah.d : Int), .int .i64 (x.ah.e : Int)]] W' fun e w' => e = .returned (.agg #[.int .i64 ((m0.join x.ah).a : Int), .int .i64 ((m0.join x.ah).b : Int), .int .i64 ((m0.join x.ah).c : Int), .int .i64 ((m0.join x.ah).d : Int), .int .i64 ((m0.join x.ah).e : Int)]) ∧ Below W'.heap.size W' w') := fun W' => joinG _ _ W'
      have HW1 : Hid (∀ w1, Below W.heap.size W w1 → ∀ o v, (endCellsG (b0 + 1) (b0 + 1 + 1) m0)[o]? = some v → w1.cell? ⟨b0 + 1 + 1 + 1, o, none⟩ = some v ∧ w1.frozen? ⟨b0 + 1 + 1 + 1, o, none⟩ = false) := fun w1 hb o v hv => by
        have h := (HI.out.below hb).own
        rw [hm0] at h
        exact ⟨by rw [cell_of_heap h]; exact hv, frozen_of_heap h o⟩
      clear hm0
      gi_wp2_with (refine ⟨trivial, ?_⟩; gi_at_call 129; refine (CallsIn.inRound l (callsIn_wide.2 (HJ.out _))).mono ?_; rintro e w1 ⟨rfl, hbw⟩; obtain ⟨p2, g2⟩ := HW1.out w1 hbw 2 _ rfl; obtain ⟨p3, g3⟩ := HW1.out w1 hbw 3 _ rfl; obtain ⟨p4, g4⟩ := HW1.out w1 hbw 4 _ rfl; obtain ⟨p5, g5⟩ := HW1.out w1 hbw 5 _ rfl; obtain ⟨p6, g6⟩ := HW1.out w1 hbw 6 _ rfl)
      have hbl := HI.out.bel.size
      exact ⟨(((((((keeps_below hbw).trans (KeepsOthers.setCell _ _ _)).trans (KeepsOthers.setCell _ _ _)).trans (KeepsOthers.setCell _ _ _)).trans (KeepsOthers.setCell _ _ _)).trans (KeepsOthers.setCell _ _ _)).from _), (((((hbw.mono (by omega)).setCell (by show b0 ≤ b0 + 1 + 1 + 1; omega) _).setCell (by show b0 ≤ b0 + 1 + 1 + 1; omega) _).setCell (by show b0 ≤ b0 + 1 + 1 + 1; omega) _).setCell (by show b0 ≤ b0 + 1 + 1 + 1; omega) _).setCell (by show b0 ≤ b0 + 1 + 1 + 1; omega) _, HI.out.noted hb0 hbw HF1.out HF2.out HF3.out⟩
  case done =>
    rintro D ys W hD hys hI hK
    rw [hys] at hI
    clear hys
    have e0 : W.cell? ⟨b0 + 1 + 1 + 1, 0, none⟩ = some (.map (some (b0 + 1))) := by rw [cell_of_heap hI.own]; rfl
    have e1 : W.cell? ⟨b0 + 1 + 1 + 1, 1, none⟩ = some (.map (some (b0 + 1 + 1))) := by rw [cell_of_heap hI.own]; rfl
    generalize hm0 : noteR log = m0 at *
    have ho := hI.own
    rw [hm0] at ho
    have e2 : W.cell? ⟨b0 + 1 + 1 + 1, 2, none⟩ = some (.int .i64 (m0.a : Int)) := by rw [cell_of_heap ho]; rfl
    have e3 : W.cell? ⟨b0 + 1 + 1 + 1, 3, none⟩ = some (.int .i64 (m0.b : Int)) := by rw [cell_of_heap ho]; rfl
    have e4 : W.cell? ⟨b0 + 1 + 1 + 1, 4, none⟩ = some (.int .i64 (m0.c : Int)) := by rw [cell_of_heap ho]; rfl
    have e5 : W.cell? ⟨b0 + 1 + 1 + 1, 5, none⟩ = some (.int .i64 (m0.d : Int)) := by rw [cell_of_heap ho]; rfl
    have e6 : W.cell? ⟨b0 + 1 + 1 + 1, 6, none⟩ = some (.int .i64 (m0.e : Int)) := by rw [cell_of_heap ho]; rfl
    have r0 : W.cell? ⟨b0, 0, none⟩ = some (.map none) := by rw [cell_of_heap hI.res]; rfl
    have r1 : W.cell? ⟨b0, 1, none⟩ = some (.map none) := by rw [cell_of_heap hI.res]; rfl
    have r2 : W.cell? ⟨b0, 2, none⟩ = some (.int .i64 0) := by rw [cell_of_heap hI.res]; rfl
    have r3 : W.cell? ⟨b0, 3, none⟩ = some (.int .i64 0) := by rw [cell_of_heap hI.res]; rfl
    have r4 : W.cell? ⟨b0, 4, none⟩ = some (.int .i64 0) := by rw [cell_of_heap hI.res]; rfl
    have r5 : W.cell? ⟨b0, 5, none⟩ = some (.int .i64 0) := by rw [cell_of_heap hI.res]; rfl
    have r6 : W.cell? ⟨b0, 6, none⟩ = some (.int .i64 0) := by rw [cell_of_heap hI.res]; rfl
    have fz : ∀ o, W.frozen? ⟨b0, o, none⟩ = false := frozen_of_heap hI.res
    have HI : Hid (EndG b0 (b0 + 1) (b0 + 1 + 1) (b0 + 1 + 1 + 1) w log W) := hI
    clear hI ho hrow hrow0 hBs hBs0 hmm hev
    gi_wp2
    obtain ⟨W7, hW7⟩ : ∃ W7, ((((((W.setCell ⟨b0, 0, none⟩ (.map (some (b0 + 1)))).setCell ⟨b0, 1, none⟩ (.map (some (b0 + 1 + 1)))).setCell ⟨b0, 2, none⟩ (.int .i64 (m0.a : Int))).setCell ⟨b0, 3, none⟩ (.int .i64 (m0.b : Int))).setCell ⟨b0, 4, none⟩ (.int .i64 (m0.c : Int))).setCell ⟨b0, 5, none⟩ (.int .i64 (m0.d : Int))).setCell ⟨b0, 6, none⟩ (.int .i64 (m0.e : Int)) = W7 := ⟨_, rfl⟩
    have k7 : ∀ b, b ≠ b0 → W7.heap[b]? = W.heap[b]? := fun b hne => by
      rw [← hW7, Below.heap_setCell _ _ _ _ hne, Below.heap_setCell _ _ _ _ hne, Below.heap_setCell _ _ _ _ hne, Below.heap_setCell _ _ _ _ hne, Below.heap_setCell _ _ _ _ hne, Below.heap_setCell _ _ _ _ hne, Below.heap_setCell _ _ _ _ hne]
    have h7 : W7.heap[b0]? = some (.cells (endCellsG (b0 + 1) (b0 + 1 + 1) m0) 178 (0, 0)) := by
      rw [← hW7, heap_setCell_same (heap_setCell_same (heap_setCell_same (heap_setCell_same (heap_setCell_same (heap_setCell_same (heap_setCell_same HI.out.res _) _) _) _) _) _) _]
      simp [endCellsG]
    have b7 : Below w.heap.size w W7 := by
      rw [← hW7]
      exact ((((((HI.out.bel.setCell (by show w.heap.size ≤ b0; omega) _).setCell (by show w.heap.size ≤ b0; omega) _).setCell (by show w.heap.size ≤ b0; omega) _).setCell (by show w.heap.size ≤ b0; omega) _).setCell (by show w.heap.size ≤ b0; omega) _).setCell (by show w.heap.size ≤ b0; omega) _).setCell (by show w.heap.size ≤ b0; omega) _
    have hD7 : W7.heap[D]? = some (.deferred (some [])) := (k7 D (by omega)).trans hK
    have hl7 : (b0 + 1 + 1) < W7.heap.size := by have := (HI.out.m2.same (k7 _ (by omega))).lt; exact this
    rw [hW7]
    clear hW7 r0 r1 r2 r3 r4 r5 r6 e0 e1 e2 e3 e4 e5 e6 fz
    refine ⟨by simp, .inl ⟨_, _, rfl, run_takeDeferred hD7, ?_⟩⟩
    have k8 : ∀ b, b ≠ D → (W7.putObj D (.deferred none)).heap[b]? = W7.heap[b]? := fun b hne => World.putObj_heap_other hne
    have b8 : Below w.heap.size w (W7.putObj D (.deferred none)) := ⟨b7.os, b7.tape, b7.output, by rw [World.putObj_size]; exact b7.size, fun b hb => (k8 b (by omega)).trans (b7.block b hb)⟩
    have h8' := (k8 b0 (by omega)).trans h7
    have l8 : b0 + 1 + 1 < (W7.putObj D (.deferred none)).heap.size := by rw [World.putObj_size]; exact hl7
    have m81 : MapIs (W7.putObj D (.deferred none)) (b0 + 1) log.length (endsG .listen log) := HI.out.m1.same ((k8 _ (by omega)).trans (k7 _ (by omega)))
    have m82 : MapIs (W7.putObj D (.deferred none)) (b0 + 1 + 1) log.length (endsG .finWait log) := HI.out.m2.same ((k8 _ (by omega)).trans (k7 _ (by omega)))
    generalize W7.putObj D (.deferred none) = W8 at *
    have q0 : W8.cell? ⟨b0, 0, none⟩ = some (.map (some (b0 + 1))) := by rw [cell_of_heap h8']; rfl
    have q1 : W8.cell? ⟨b0, 1, none⟩ = some (.map (some (b0 + 1 + 1))) := by rw [cell_of_heap h8']; rfl
    have q2 : W8.cell? ⟨b0, 2, none⟩ = some (.int .i64 (m0.a : Int)) := by rw [cell_of_heap h8']; rfl
    have q3 : W8.cell? ⟨b0, 3, none⟩ = some (.int .i64 (m0.b : Int)) := by rw [cell_of_heap h8']; rfl
    have q4 : W8.cell? ⟨b0, 4, none⟩ = some (.int .i64 (m0.c : Int)) := by rw [cell_of_heap h8']; rfl
    have q5 : W8.cell? ⟨b0, 5, none⟩ = some (.int .i64 (m0.d : Int)) := by rw [cell_of_heap h8']; rfl
    have q6 : W8.cell? ⟨b0, 6, none⟩ = some (.int .i64 (m0.e : Int)) := by rw [cell_of_heap h8']; rfl
    rw [hm0]
    refine ⟨.agg (endCellsG (b0 + 1) (b0 + 1 + 1) m0), ?_, b0 + 1, b0 + 1 + 1, rfl, by omega, by omega, l8, m81, m82, b8⟩
    simp [results, Tryz.results90, go_sem, q0, q1, q2, q3, q4, q5, q6, endCellsG]
  case stop =>
    rintro D c pre W _ _ h _
    exact h.elim

end Go.Proofs.YtckmppkdpnhodaaGreatDoor
