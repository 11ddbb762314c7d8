/-
  Contract of cart.endsOf: what ends what. Contracts of (ends).has, (Cart).put, HasItem, HasCoupon. Contracts of (Cart).put, HasItem, HasCoupon. Contract of cart.Of: the cart of a log. Contracts of (*Log).put, (*Log).Do. Contracts of the queue's methods, heap.Push, (*Box).Put.
-/
import Derived.Test.YtckmppkdpnhodaaGreatDoorT08
import Derived.Deep.RegionHeld3
import Derived.Deep.RegionLaw
import Derived.Test.YtckmppkdpnhodaaGreatDoorT07
namespace Go.Proofs.YtckmppkdpnhodaaGreatDoor
set_option linter.unusedVariables false
set_option linter.unusedSimpArgs false
open Go.RowKit Go.Proofs Go.Shelf

attribute [local go_sem] Oper.semAt_some

/-- A reach in which only the replica me has commands, as a value. -/
def reachVal (me m : Nat) : Value := ag5 (rc me 0 m) (rc me 1 m) (rc me 2 m) (rc me 3 m) (rc me 4 m)

/-- The last command of a kind on a word: how many were known where it was done. -/
def endMax (k : Kd) (pre : List EnT) (s : List UInt8) : Option Nat := pre.foldl (fun acc x => if x.c.k = k ∧ x.c.word.data.toList = s then some (max (acc.getD 0) x.i) else acc) none
def noteMax (pre : List EnT) : Nat := pre.foldl (fun m x => if x.c.k = .closeWait then max m x.i else m) 0

def endsF (k : Kd) (me : Nat) (pre : List EnT) : List UInt8 → Option Value := fun s => (endMax k pre s).map (reachVal me)

/-- The cells of the struct of what ends what. -/
def endCells (me b1 b2 m : Nat) : Array Value :=
  #[.map (some b1), .map (some b2), .int .i64 ((rc me 0 m : Nat) : Int), .int .i64 ((rc me 1 m : Nat) : Int), .int .i64 ((rc me 2 m : Nat) : Int), .int .i64 ((rc me 3 m : Nat) : Int), .int .i64 ((rc me 4 m : Nat) : Int)]

structure EndI (me b0 b1 b2 b3 : Nat) (w : World) (pre : List EnT) (W : World) : Prop where
  res : W.heap[b0]? = some (.cells #[.map none, .map none, .int .i64 0, .int .i64 0, .int .i64 0, .int .i64 0, .int .i64 0] 178 (0, 0))
  own : W.heap[b3]? = some (.cells (endCells me b1 b2 (noteMax pre)) 178 (0, 0))
  m1 : MapIs W b1 pre.length (endsF .listen me pre)
  m2 : MapIs W b2 pre.length (endsF .finWait me pre)
  bel : Below w.heap.size w W

theorem EndI.from {me b0 b1 b2 b3 : Nat} {w : World} {B : Nat} (h0 : b0 < B) (h1 : b1 < B) (h2 : b2 < B) (h3 : b3 < B) (hw : w.heap.size ≤ B) : OwnFrom B (EndI me b0 b1 b2 b3 w) := fun s W W' row hs hg hr => by
  have k : ∀ b, b < B → b < W.heap.size → W'.heap[b]? = W.heap[b]? := fun b hb hl => hg.block b hl (fun e => by have := (hr b e.symm).1; omega)
  refine ⟨(k b0 h0 (Array.getElem?_eq_some_iff.1 hs.res).1).trans hs.res, (k b3 h3 (Array.getElem?_eq_some_iff.1 hs.own).1).trans hs.own, hs.m1.same (k b1 h1 hs.m1.lt), hs.m2.same (k b2 h2 hs.m2.lt), ?_⟩
  exact hs.bel.grown hg hs.bel.size (fun r e => Nat.le_trans hw (hr r e).1)

theorem EndI.below {me b0 b1 b2 b3 : Nat} {w : World} {pre : List EnT} {W W' : World} (hs : EndI me b0 b1 b2 b3 w pre W) (hb : Below W.heap.size W W') : EndI me b0 b1 b2 b3 w pre W' :=
  ⟨(hb.block _ (Array.getElem?_eq_some_iff.1 hs.res).1).trans hs.res, (hb.block _ (Array.getElem?_eq_some_iff.1 hs.own).1).trans hs.own, hs.m1.below hb, hs.m2.below hb, hs.bel.trans (hb.mono hs.bel.size)⟩

theorem keeps_below {W W' : World} (h : Below W.heap.size W W') : KeepsOthers W W' := ⟨h.size, fun k o ho _ => (h.block k (Array.getElem?_eq_some_iff.1 ho).1).trans ho⟩

/-- One of the two maps has turned. -/
theorem EndI.turn1 {me b0 : Nat} {w : World} {pre : List EnT} {x : EnT} {W w1 w2 : World} (hs : EndI me b0 (b0 + 1) (b0 + 1 + 1) (b0 + 1 + 1 + 1) w pre W) (hw : w.heap.size = b0) (hb : Below W.heap.size W w1) (hg : w1.grownBy w2 (some (b0 + 1)))
    (hm : MapIs w2 (b0 + 1) (pre.length + 1) (endsF .listen me (pre ++ [x]))) (h2 : endsF .finWait me (pre ++ [x]) = endsF .finWait me pre) (h3 : noteMax (pre ++ [x]) = noteMax pre) :
    EndI me b0 (b0 + 1) (b0 + 1 + 1) (b0 + 1 + 1 + 1) w (pre ++ [x]) w2 := by
  have h1 := hs.below hb
  have k : ∀ b, b ≠ b0 + 1 → b < w1.heap.size → w2.heap[b]? = w1.heap[b]? := fun b hb hl => hg.block b hl (fun e => hb (by cases e; rfl))
  refine ⟨(k _ (by omega) (Array.getElem?_eq_some_iff.1 h1.res).1).trans h1.res, ?_, by rw [List.length_append]; exact hm, ?_, h1.bel.grown hg h1.bel.size (fun r e => by cases e; omega)⟩
  · rw [h3]; exact (k _ (by omega) (Array.getElem?_eq_some_iff.1 h1.own).1).trans h1.own
  · rw [h2, List.length_append]; exact (h1.m2.same (k _ (by omega) h1.m2.lt)).mono (by simp)

theorem EndI.turn2 {me b0 : Nat} {w : World} {pre : List EnT} {x : EnT} {W w1 w2 : World} (hs : EndI me b0 (b0 + 1) (b0 + 1 + 1) (b0 + 1 + 1 + 1) w pre W) (hw : w.heap.size = b0) (hb : Below W.heap.size W w1) (hg : w1.grownBy w2 (some (b0 + 1 + 1)))
    (hm : MapIs w2 (b0 + 1 + 1) (pre.length + 1) (endsF .finWait me (pre ++ [x]))) (h2 : endsF .listen me (pre ++ [x]) = endsF .listen me pre) (h3 : noteMax (pre ++ [x]) = noteMax pre) :
    EndI me b0 (b0 + 1) (b0 + 1 + 1) (b0 + 1 + 1 + 1) w (pre ++ [x]) w2 := by
  have h1 := hs.below hb
  have k : ∀ b, b ≠ b0 + 1 + 1 → b < w1.heap.size → w2.heap[b]? = w1.heap[b]? := fun b hb hl => hg.block b hl (fun e => hb (by cases e; rfl))
  refine ⟨(k _ (by omega) (Array.getElem?_eq_some_iff.1 h1.res).1).trans h1.res, ?_, ?_, by rw [List.length_append]; exact hm, h1.bel.grown hg h1.bel.size (fun r e => by cases e; omega)⟩
  · rw [h3]; exact (k _ (by omega) (Array.getElem?_eq_some_iff.1 h1.own).1).trans h1.own
  · rw [h2, List.length_append]; exact (h1.m1.same (k _ (by omega) h1.m1.lt)).mono (by simp)

/-- The notes have turned. -/
theorem EndI.noted {me b0 : Nat} {w : World} {pre : List EnT} {x : EnT} {W w1 : World} (hs : EndI me b0 (b0 + 1) (b0 + 1 + 1) (b0 + 1 + 1 + 1) w pre W) (hw : w.heap.size = b0) (hb : Below W.heap.size W w1)
    (h1 : endsF .listen me (pre ++ [x]) = endsF .listen me pre) (h2 : endsF .finWait me (pre ++ [x]) = endsF .finWait me pre) {m : Nat} (h3 : noteMax (pre ++ [x]) = m) :
    EndI me b0 (b0 + 1) (b0 + 1 + 1) (b0 + 1 + 1 + 1) w (pre ++ [x]) (((((w1.setCell ⟨b0 + 1 + 1 + 1, 2, none⟩ (.int .i64 ((rc me 0 m : Nat) : Int))).setCell ⟨b0 + 1 + 1 + 1, 3, none⟩ (.int .i64 ((rc me 1 m : Nat) : Int))).setCell ⟨b0 + 1 + 1 + 1, 4, none⟩ (.int .i64 ((rc me 2 m : Nat) : Int))).setCell ⟨b0 + 1 + 1 + 1, 5, none⟩ (.int .i64 ((rc me 3 m : Nat) : Int))).setCell ⟨b0 + 1 + 1 + 1, 6, none⟩ (.int .i64 ((rc me 4 m : Nat) : Int))) := by
  have hw1 := hs.below hb
  have k : ∀ b, b ≠ b0 + 1 + 1 + 1 → (((((w1.setCell ⟨b0 + 1 + 1 + 1, 2, none⟩ (.int .i64 ((rc me 0 m : Nat) : Int))).setCell ⟨b0 + 1 + 1 + 1, 3, none⟩ (.int .i64 ((rc me 1 m : Nat) : Int))).setCell ⟨b0 + 1 + 1 + 1, 4, none⟩ (.int .i64 ((rc me 2 m : Nat) : Int))).setCell ⟨b0 + 1 + 1 + 1, 5, none⟩ (.int .i64 ((rc me 3 m : Nat) : Int))).setCell ⟨b0 + 1 + 1 + 1, 6, none⟩ (.int .i64 ((rc me 4 m : Nat) : Int))).heap[b]? = w1.heap[b]? := fun b hne => by
    rw [Below.heap_setCell _ _ _ _ hne, Below.heap_setCell _ _ _ _ hne, Below.heap_setCell _ _ _ _ hne, Below.heap_setCell _ _ _ _ hne, Below.heap_setCell _ _ _ _ hne]
  refine ⟨(k _ (by omega)).trans hw1.res, ?_, ?_, ?_, ?_⟩
  · rw [heap_setCell_same (heap_setCell_same (heap_setCell_same (heap_setCell_same (heap_setCell_same hw1.own _) _) _) _) _, h3]
    simp [endCells]
  · rw [h1, List.length_append]; exact (hw1.m1.same (k _ (by omega))).mono (by simp)
  · rw [h2, List.length_append]; exact (hw1.m2.same (k _ (by omega))).mono (by simp)
  · exact ((((hw1.bel.setCell (by show w.heap.size ≤ b0 + 1 + 1 + 1; omega) _).setCell (by show w.heap.size ≤ b0 + 1 + 1 + 1; omega) _).setCell (by show w.heap.size ≤ b0 + 1 + 1 + 1; omega) _).setCell (by show w.heap.size ≤ b0 + 1 + 1 + 1; omega) _).setCell (by show w.heap.size ≤ b0 + 1 + 1 + 1; omega) _

/-- Nothing has turned. -/
theorem EndI.still {me b0 b1 b2 b3 : Nat} {w : World} {pre : List EnT} {x : EnT} {W : World} (hs : EndI me b0 b1 b2 b3 w pre W) (h1 : endsF .listen me (pre ++ [x]) = endsF .listen me pre) (h2 : endsF .finWait me (pre ++ [x]) = endsF .finWait me pre) (h3 : noteMax (pre ++ [x]) = noteMax pre) :
    EndI me b0 b1 b2 b3 w (pre ++ [x]) W :=
  ⟨hs.res, by rw [h3]; exact hs.own, by rw [h1, List.length_append]; exact hs.m1.mono (by simp), by rw [h2, List.length_append]; exact hs.m2.mono (by simp), hs.bel⟩

end Go.Proofs.YtckmppkdpnhodaaGreatDoor

namespace Go.Proofs.YtckmppkdpnhodaaGreatDoor
set_option linter.unusedVariables false
set_option linter.unusedSimpArgs false
open Go.RowKit Go.Proofs

attribute [local go_sem ↓] Go.wp_at_zero Go.wp_at_succ

/-- How many of the replica's commands what the entry put in has been ended by. -/
def goneM (E : List EnT) (x : EnT) : Nat :=
  match x.c.k with
  | .closed => (endMax .listen E x.c.word.data.toList).getD 0
  | .established => (endMax .finWait E x.c.word.data.toList).getD 0
  | .closeWait => noteMax E
  | _ => 0

end Go.Proofs.YtckmppkdpnhodaaGreatDoor

namespace Go.Proofs.YtckmppkdpnhodaaGreatDoor
set_option linter.unusedVariables false
set_option linter.unusedSimpArgs false
open Go.RowKit Go.Proofs

/-- A cart: how many of each item, which coupons, which notes. -/
structure CartS where
  it : List UInt8 → Option Nat
  cp : List UInt8 → Bool
  no : List UInt8 → Bool

def CartS.empty : CartS := ⟨fun _ => none, fun _ => false, fun _ => false⟩

def itF (g : List UInt8 → Option Nat) : List UInt8 → Option Value := fun s => (g s).map fun m => .int .i64 (m : Int)
def seF (h : List UInt8 → Bool) : List UInt8 → Option Value := fun s => if h s then some (.agg #[]) else none

def putC (S : CartS) (c : Cm) : CartS :=
  match c.k with
  | .closed => ⟨fun s => if s = c.word.data.toList then some (min ((S.it c.word.data.toList).getD 0 + c.count) 999) else S.it s, S.cp, S.no⟩
  | .established => ⟨S.it, fun s => if s = c.word.data.toList then true else S.cp s, S.no⟩
  | .closeWait => ⟨S.it, S.cp, fun s => if s = c.word.data.toList then true else S.no s⟩
  | _ => S

theorem itF_put (g : List UInt8 → Option Nat) (s : List UInt8) (m : Nat) : fput (itF g) s (.int .i64 (m : Int)) = itF (fun x => if x = s then some m else g x) := by
  funext x; simp only [fput, itF]; split <;> rfl

theorem seF_put (h : List UInt8 → Bool) (s : List UInt8) : fput (seF h) s (.agg #[]) = seF (fun x => if x = s then true else h x) := by
  funext x; simp only [fput, seF]; split <;> rfl

theorem itF_getD (g : List UInt8 → Option Nat) (s : List UInt8) : ((itF g s).getD (.int .i64 0)) = .int .i64 (((g s).getD 0 : Nat) : Int) := by
  unfold itF; cases g s <;> rfl

/-- The three maps of a cart. -/
structure CartAt (w : World) (b1 b2 b3 n : Nat) (S : CartS) : Prop where
  m1 : MapIs w b1 n (itF S.it)
  m2 : MapIs w b2 n (seF S.cp)
  m3 : MapIs w b3 n (seF S.no)
  le : ∀ s m, S.it s = some m → m ≤ 999

theorem CartAt.below {w w' : World} {b1 b2 b3 n : Nat} {S : CartS} (h : CartAt w b1 b2 b3 n S) (hb : Below w.heap.size w w') : CartAt w' b1 b2 b3 n S := ⟨h.m1.below hb, h.m2.below hb, h.m3.below hb, h.le⟩

/-- What put leaves: new blocks, and one of the three maps turned. -/
structure PutTo (w : World) (b1 b2 b3 n : Nat) (S : CartS) (w' : World) : Prop where
  cart : CartAt w' b1 b2 b3 n S
  grown : ∃ w1 row, Below w.heap.size w w1 ∧ w1.grownBy w' row ∧ ∀ r, row = some r → r = b1 ∨ r = b2 ∨ r = b3

theorem putTo1 {w w1 w' : World} {b1 b2 b3 n : Nat} {S : CartS} {c : Cm} (h : CartAt w b1 b2 b3 n S) (h12 : b1 ≠ b2) (h13 : b1 ≠ b3) (hb : Below w.heap.size w w1) (hg : w1.grownBy w' (some b1)) (hk : c.k = .closed)
    (hm : MapIs w' b1 (n + 1) (fput (itF S.it) c.word.data.toList (.int .i64 ((min ((S.it c.word.data.toList).getD 0 + c.count) 999 : Nat) : Int)))) : PutTo w b1 b2 b3 (n + 1) (putC S c) w' := by
  have hc := h.below hb
  have k : ∀ b, b ≠ b1 → b < w1.heap.size → w'.heap[b]? = w1.heap[b]? := fun b hb hl => hg.block b hl (fun e => hb (by cases e; rfl))
  refine ⟨⟨?_, ?_, ?_, ?_⟩, w1, some b1, hb, hg, fun r e => by cases e; exact .inl rfl⟩
  · rw [itF_put] at hm; simpa [putC, hk] using hm
  · have := (hc.m2.same (k _ (Ne.symm h12) hc.m2.lt)).mono (Nat.le_succ n); simpa [putC, hk] using this
  · have := (hc.m3.same (k _ (Ne.symm h13) hc.m3.lt)).mono (Nat.le_succ n); simpa [putC, hk] using this
  · intro s m hs
    simp only [putC, hk] at hs
    split at hs
    · cases hs; omega
    · exact h.le s m hs

theorem putTo2 {w w1 w' : World} {b1 b2 b3 n : Nat} {S : CartS} {c : Cm} (h : CartAt w b1 b2 b3 n S) (h12 : b1 ≠ b2) (h23 : b2 ≠ b3) (hb : Below w.heap.size w w1) (hg : w1.grownBy w' (some b2)) (hk : c.k = .established)
    (hm : MapIs w' b2 (n + 1) (fput (seF S.cp) c.word.data.toList (.agg #[]))) : PutTo w b1 b2 b3 (n + 1) (putC S c) w' := by
  have hc := h.below hb
  have k : ∀ b, b ≠ b2 → b < w1.heap.size → w'.heap[b]? = w1.heap[b]? := fun b hb hl => hg.block b hl (fun e => hb (by cases e; rfl))
  refine ⟨⟨?_, ?_, ?_, ?_⟩, w1, some b2, hb, hg, fun r e => by cases e; exact .inr (.inl rfl)⟩
  · have := (hc.m1.same (k _ h12 hc.m1.lt)).mono (Nat.le_succ n); simpa [putC, hk] using this
  · rw [seF_put] at hm; simpa [putC, hk] using hm
  · have := (hc.m3.same (k _ (Ne.symm h23) hc.m3.lt)).mono (Nat.le_succ n); simpa [putC, hk] using this
  · intro s m hs
    simp only [putC, hk] at hs
    exact h.le s m hs

theorem putTo3 {w w1 w' : World} {b1 b2 b3 n : Nat} {S : CartS} {c : Cm} (h : CartAt w b1 b2 b3 n S) (h13 : b1 ≠ b3) (h23 : b2 ≠ b3) (hb : Below w.heap.size w w1) (hg : w1.grownBy w' (some b3)) (hk : c.k = .closeWait)
    (hm : MapIs w' b3 (n + 1) (fput (seF S.no) c.word.data.toList (.agg #[]))) : PutTo w b1 b2 b3 (n + 1) (putC S c) w' := by
  have hc := h.below hb
  have k : ∀ b, b ≠ b3 → b < w1.heap.size → w'.heap[b]? = w1.heap[b]? := fun b hb hl => hg.block b hl (fun e => hb (by cases e; rfl))
  refine ⟨⟨?_, ?_, ?_, ?_⟩, w1, some b3, hb, hg, fun r e => by cases e; exact .inr (.inr rfl)⟩
  · have := (hc.m1.same (k _ h13 hc.m1.lt)).mono (Nat.le_succ n); simpa [putC, hk] using this
  · have := (hc.m2.same (k _ h23 hc.m2.lt)).mono (Nat.le_succ n); simpa [putC, hk] using this
  · rw [seF_put] at hm; simpa [putC, hk] using hm
  · intro s m hs
    simp only [putC, hk] at hs
    exact h.le s m hs

theorem putTo0 {w w1 : World} {b1 b2 b3 n : Nat} {S : CartS} {c : Cm} (h : CartAt w b1 b2 b3 n S) (hb : Below w.heap.size w w1) (hk : putC S c = S) : PutTo w b1 b2 b3 (n + 1) (putC S c) w1 := by
  have hc := h.below hb
  rw [hk]
  exact ⟨⟨hc.m1.mono (Nat.le_succ n), hc.m2.mono (Nat.le_succ n), hc.m3.mono (Nat.le_succ n), h.le⟩, w1, none, hb, World.grownBy.refl _ _, fun r e => by cases e⟩

attribute [local go_sem ↓] Go.wp_at_zero Go.wp_at_succ

set_option maxRecDepth 100000 in
set_option maxHeartbeats 4000000 in
theorem put_any (b1 b2 b3 n : Nat) (h12 : b1 ≠ b2) (h13 : b1 ≠ b3) (h23 : b2 ≠ b3) (hn : n < 4294967297) (S : CartS) (c : Cm) (hc : CmOk c) (w : World) (h : CartAt w b1 b2 b3 n S) :
    Calls Tryz.prog 92 #[.agg #[.map (some b1), .map (some b2), .map (some b3)], .agg #[.int .i64 (c.k.num : Int), .string c.word, .int .i64 (c.count : Int)]] w fun e w' => e = .returned (.tuple #[]) ∧ PutTo w b1 b2 b3 (n + 1) (putC S c) w' := by
  have hw8 : c.word.size ≤ maxLen := by
    have := hc.word
    simp only [wordB, Bool.and_eq_true, decide_eq_true_eq] at this; unfold maxLen; omega
  have hnm : n < maxLen := by unfold maxLen; omega
  have B2 : ∀ o1 o2, Below w.heap.size w ((w.alloc o1).alloc o2) := fun o1 o2 => ((Below.refl _ w).alloc (Nat.le_refl _) _).alloc (by simp) _
  have HH : Hid (CartAt w b1 b2 b3 n S) := h
  cases hk : c.k with
  | listen =>
    have HP : Hid (putC S c = S) := by show _ = _; simp [putC, hk]
    simp only [Kd.num]
    go_enter Tryz.func92, Tryz.ntmps92
    go_wp2
    go_end0
    exact ⟨rfl, putTo0 HH.out (B2 _ _) HP.out⟩
  | finWait =>
    have HP : Hid (putC S c = S) := by show _ = _; simp [putC, hk]
    simp only [Kd.num]
    go_enter Tryz.func92, Tryz.ntmps92
    go_wp2
    go_end0
    exact ⟨rfl, putTo0 HH.out (B2 _ _) HP.out⟩
  | closeWait =>
    obtain ⟨w', L, hm, hg⟩ := (h.below (B2 (.cells #[.map (some b1), .map (some b2), .map (some b3)] 128) (.cells #[.int .i64 4, .string c.word, .int .i64 (c.count : Int)] 116))).m3.put Tryz.underlying126 hnm c.word hw8 (.agg #[])
    have HP : Hid (PutTo w b1 b2 b3 (n + 1) (putC S c) w') := putTo3 h h13 h23 (B2 _ _) hg hk hm
    clear h hm hg B2 HH
    simp only [Kd.num]
    go_enter Tryz.func92, Tryz.ntmps92
    go_wp2
    go_end0
    exact ⟨rfl, HP.out⟩
  | established =>
    obtain ⟨w', L, hm, hg⟩ := (h.below (B2 (.cells #[.map (some b1), .map (some b2), .map (some b3)] 128) (.cells #[.int .i64 2, .string c.word, .int .i64 (c.count : Int)] 116))).m2.put Tryz.underlying126 hnm c.word hw8 (.agg #[])
    have HP : Hid (PutTo w b1 b2 b3 (n + 1) (putC S c) w') := putTo2 h h12 h23 (B2 _ _) hg hk hm
    clear h hm hg B2 HH
    simp only [Kd.num]
    go_enter Tryz.func92, Tryz.ntmps92
    go_wp2
    go_end0
    exact ⟨rfl, HP.out⟩
  | closed =>
    have hle : (S.it c.word.data.toList).getD 0 ≤ 999 := by
      cases hs : S.it c.word.data.toList with
      | none => simp
      | some m => exact h.le _ m hs
    have hct := (hc.add hk).2
    have hb := h.below (B2 (.cells #[.map (some b1), .map (some b2), .map (some b3)] 128) (.cells #[.int .i64 0, .string c.word, .int .i64 (c.count : Int)] 116))
    have L1 := hb.m1.look Tryz.underlying125 (Tryz.zeroValue3 _) c.word hw8
    rw [itF_getD] at L1
    obtain ⟨w', L, hm, hg⟩ := hb.m1.put Tryz.underlying125 hnm c.word hw8 (.int .i64 ((min ((S.it c.word.data.toList).getD 0 + c.count) 999 : Nat) : Int))
    have HP : Hid (PutTo w b1 b2 b3 (n + 1) (putC S c) w') := putTo1 h h12 h13 (B2 _ _) hg hk hm
    clear h hm hg B2 HH hb
    generalize (S.it c.word.data.toList).getD 0 = m at *
    rw [show ((min (m + c.count) 999 : Nat) : Int) = min ((m : Int) + (c.count : Int)) 999 by omega] at L
    simp only [Kd.num]
    go_enter Tryz.func92, Tryz.ntmps92
    go_wp2
    go_end0
    exact ⟨rfl, HP.out⟩

theorem hasItem_any (b1 b2 b3 n : Nat) (S : CartS) (s : ByteArray) (hs : s.size ≤ maxLen) (w : World) (h : CartAt w b1 b2 b3 n S) :
    Calls Tryz.prog 85 #[.agg #[.map (some b1), .map (some b2), .map (some b3)], .string s] w fun e w' => e = .returned (.bool (S.it s.data.toList).isSome) ∧ Below w.heap.size w w' := by
  have B1 : Below w.heap.size w (w.alloc (.cells #[.map (some b1), .map (some b2), .map (some b3)] 128)) := (Below.refl _ w).alloc (Nat.le_refl _) _
  have L1 := (h.below B1).m1.lookOk Tryz.underlying125 (Tryz.zeroValue3 _) s hs
  rw [itF_getD, show (itF S.it s.data.toList).isSome = (S.it s.data.toList).isSome by unfold itF; cases S.it s.data.toList <;> rfl] at L1
  clear h
  generalize (S.it s.data.toList).isSome = p at *
  generalize (S.it s.data.toList).getD 0 = m at *
  go_enter Tryz.func85, Tryz.ntmps85
  go_wp2
  go_ret
  exact ⟨rfl, B1⟩

theorem hasCoupon_any (b1 b2 b3 n : Nat) (S : CartS) (s : ByteArray) (hs : s.size ≤ maxLen) (w : World) (h : CartAt w b1 b2 b3 n S) :
    Calls Tryz.prog 86 #[.agg #[.map (some b1), .map (some b2), .map (some b3)], .string s] w fun e w' => e = .returned (.bool (S.cp s.data.toList)) ∧ Below w.heap.size w w' := by
  have B1 : Below w.heap.size w (w.alloc (.cells #[.map (some b1), .map (some b2), .map (some b3)] 128)) := (Below.refl _ w).alloc (Nat.le_refl _) _
  have L1 := (h.below B1).m2.lookOk Tryz.underlying126 (Tryz.zeroValue94 _) s hs
  rw [show (seF S.cp s.data.toList).getD (.agg #[]) = .agg #[] by unfold seF; split <;> rfl, show (seF S.cp s.data.toList).isSome = S.cp s.data.toList by unfold seF; split <;> simp_all] at L1
  clear h
  generalize S.cp s.data.toList = p at *
  go_enter Tryz.func86, Tryz.ntmps86
  go_wp2
  go_ret
  exact ⟨rfl, B1.alloc (by simp) _⟩

end Go.Proofs.YtckmppkdpnhodaaGreatDoor

namespace Go.Proofs.YtckmppkdpnhodaaGreatDoor
set_option linter.unusedVariables false
set_option linter.unusedSimpArgs false
open Go.RowKit Go.Proofs Go.Shelf

attribute [local go_sem] Oper.semAt_some

/-- The cart of the entries pre, where E is all that is known. -/
def cartOf (E pre : List EnT) : CartS := pre.foldl (fun S x => if x.i + 1 ≤ goneM E x then S else putC S x.c) .empty

theorem cartOf_snoc (E pre : List EnT) (x : EnT) : cartOf E (pre ++ [x]) = if x.i + 1 ≤ goneM E x then cartOf E pre else putC (cartOf E pre) x.c := by simp [cartOf]

structure OfI (me b0 e1 e2 b3 c : Nat) (w : World) (E pre : List EnT) (W : World) : Prop where
  res : W.heap[b0]? = some (.cells #[.map none, .map none, .map none] 128 (0, 0))
  own : W.heap[b3]? = some (.cells (endCells me e1 e2 (noteMax E)) 178 (0, 0))
  cc : W.heap[c + 1 + 1 + 1]? = some (.cells #[.map (some c), .map (some (c + 1)), .map (some (c + 1 + 1))] 128 (0, 0))
  k1 : MapIs W e1 8 (endsF .listen me E)
  k2 : MapIs W e2 8 (endsF .finWait me E)
  cart : CartAt W c (c + 1) (c + 1 + 1) pre.length (cartOf E pre)
  bel : Below w.heap.size w W

theorem OfI.from {me b0 e1 e2 b3 c : Nat} {w : World} {E : List EnT} {B : Nat} (h0 : b0 < B) (h1 : e1 < B) (h2 : e2 < B) (h3 : b3 < B) (h4 : c + 1 + 1 + 1 < B) (hw : w.heap.size ≤ B) : OwnFrom B (OfI me b0 e1 e2 b3 c w E) := fun s W W' row hs hg hr => by
  have k : ∀ b, b < B → b < W.heap.size → W'.heap[b]? = W.heap[b]? := fun b hb hl => hg.block b hl (fun e => by have := (hr b e.symm).1; omega)
  refine ⟨(k b0 h0 (Array.getElem?_eq_some_iff.1 hs.res).1).trans hs.res, (k b3 h3 (Array.getElem?_eq_some_iff.1 hs.own).1).trans hs.own, (k _ h4 (Array.getElem?_eq_some_iff.1 hs.cc).1).trans hs.cc, hs.k1.same (k e1 h1 hs.k1.lt), hs.k2.same (k e2 h2 hs.k2.lt), ⟨hs.cart.m1.same (k _ (by omega) hs.cart.m1.lt), hs.cart.m2.same (k _ (by omega) hs.cart.m2.lt), hs.cart.m3.same (k _ (by omega) hs.cart.m3.lt), hs.cart.le⟩, ?_⟩
  exact hs.bel.grown hg hs.bel.size (fun r e => Nat.le_trans hw (hr r e).1)

theorem OfI.below {me b0 e1 e2 b3 c : Nat} {w : World} {E pre : List EnT} {W W' : World} (hs : OfI me b0 e1 e2 b3 c w E pre W) (hb : Below W.heap.size W W') : OfI me b0 e1 e2 b3 c w E pre W' :=
  ⟨(hb.block _ (Array.getElem?_eq_some_iff.1 hs.res).1).trans hs.res, (hb.block _ (Array.getElem?_eq_some_iff.1 hs.own).1).trans hs.own, (hb.block _ (Array.getElem?_eq_some_iff.1 hs.cc).1).trans hs.cc, hs.k1.below hb, hs.k2.below hb, hs.cart.below hb, hs.bel.trans (hb.mono hs.bel.size)⟩

/-- A round that puts nothing. -/
theorem OfI.skip {me b0 e1 e2 b3 c : Nat} {w : World} {E pre : List EnT} {x : EnT} {W : World} (hs : OfI me b0 e1 e2 b3 c w E pre W) (hg : x.i + 1 ≤ goneM E x) : OfI me b0 e1 e2 b3 c w E (pre ++ [x]) W := by
  refine ⟨hs.res, hs.own, hs.cc, hs.k1, hs.k2, ?_, hs.bel⟩
  rw [cartOf_snoc, if_pos hg, List.length_append]
  exact ⟨hs.cart.m1.mono (by simp), hs.cart.m2.mono (by simp), hs.cart.m3.mono (by simp), hs.cart.le⟩

theorem OfI.put {me b0 e1 e2 b3 c : Nat} {w : World} {E pre : List EnT} {x : EnT} {W W' : World} (hs : OfI me b0 e1 e2 b3 c w E pre W) (h0 : b0 < c) (h1 : e1 < c) (h2 : e2 < c) (h3 : b3 < c) (hw : w.heap.size ≤ c) (hg : ¬ x.i + 1 ≤ goneM E x)
    (hp : PutTo W c (c + 1) (c + 1 + 1) (pre.length + 1) (putC (cartOf E pre) x.c) W') : OfI me b0 e1 e2 b3 c w E (pre ++ [x]) W' ∧ Below c W W' ∧ ∀ B, c + 1 + 1 + 1 ≤ B → KeepsFrom B W W' := by
  obtain ⟨hc, w1, row, hb, hgr, hrow⟩ := hp
  have hs1 := hs.below hb
  have hcl : c < W.heap.size := hs.cart.m1.lt
  have k : ∀ b, b ≠ c → b ≠ c + 1 → b ≠ c + 1 + 1 → b < w1.heap.size → W'.heap[b]? = w1.heap[b]? := fun b n1 n2 n3 hl => hgr.block b hl (fun e => by rcases hrow b e.symm with h | h | h <;> contradiction)
  have hbc : Below c W W' := (hb.mono (by omega)).trans ((Below.refl _ w1).grown hgr (by have := hb.size; omega) (fun r e => by rcases hrow r e with h | h | h <;> omega))
  refine ⟨⟨(k b0 (by omega) (by omega) (by omega) (Array.getElem?_eq_some_iff.1 hs1.res).1).trans hs1.res, (k b3 (by omega) (by omega) (by omega) (Array.getElem?_eq_some_iff.1 hs1.own).1).trans hs1.own, (k _ (by omega) (by omega) (by omega) (Array.getElem?_eq_some_iff.1 hs1.cc).1).trans hs1.cc, hs1.k1.same (k e1 (by omega) (by omega) (by omega) hs1.k1.lt), hs1.k2.same (k e2 (by omega) (by omega) (by omega) hs1.k2.lt), ?_, hs.bel.trans (hbc.mono hw)⟩, hbc, fun B hB => ((keeps_below hb).from _).trans (KeepsFrom.of_grownBy hgr (fun j e => by rcases hrow j e with h | h | h <;> omega))⟩
  rw [cartOf_snoc, if_neg hg, List.length_append]
  exact hc

end Go.Proofs.YtckmppkdpnhodaaGreatDoor

namespace Go.Proofs.YtckmppkdpnhodaaGreatDoor
set_option linter.unusedVariables false
set_option linter.unusedSimpArgs false
open Go.RowKit Go.Proofs

attribute [local go_sem ↓] Go.wp_at_zero Go.wp_at_succ

theorem Tryz.info_entry : (Tryz.prog.info? 122).map (fun i => (i.zero, i.size, i.bytes)) = some (some (.agg #[.int .i64 0, .int .i64 0, .int .i64 0, .int .i64 0, .int .i64 0, .int .i64 0, .int .i64 0, .int .i64 0, .string ByteArray.empty, .int .i64 0]), 10, 88) := by kernel_rfl

theorem entCells_rc (me i : Nat) (c : Cm) : entCells me i c = [.int .i64 (me : Int), .int .i64 ((i : Int) + 1), .int .i64 ((rc me 0 i : Nat) : Int), .int .i64 ((rc me 1 i : Nat) : Int), .int .i64 ((rc me 2 i : Nat) : Int), .int .i64 ((rc me 3 i : Nat) : Int), .int .i64 ((rc me 4 i : Nat) : Int), .int .i64 (c.k.num : Int), .string c.word, .int .i64 (c.count : Int)] := by
  simp [entCells, reachCells, rc, List.range_succ]

end Go.Proofs.YtckmppkdpnhodaaGreatDoor

namespace Go.Proofs.YtckmppkdpnhodaaGreatDoor
set_option linter.unusedVariables false
set_option linter.unusedSimpArgs false
open Go.RowKit Go.Proofs

attribute [local go_sem ↓] Go.wp_at_zero Go.wp_at_succ

theorem Tryz.info_item : (Tryz.prog.info? 171).map (fun i => (i.zero, i.size, i.bytes)) = some (some (.agg #[.int .i64 0, .int .i64 0, .int .i64 0, .int .i64 0, .int .i64 0, .int .i64 0, .int .i64 0, .int .i64 0, .int .i64 0, .int .i64 0, .string ByteArray.empty, .int .i64 0]), 12, 104) := by kernel_rfl

theorem boxC_snoc (me : Nat) (log : List Cm) (its : List (Nat × Nat)) (p : Nat × Nat) : boxC me log (its ++ [p]) = boxC me log its ++ itemCells me log p := by simp [boxC]

theorem itemCells_rc (me : Nat) (log : List Cm) (t i : Nat) (cm : Cm) (h : log[i]? = some cm) : itemCells me log (t, i) = [.int .i64 0, .int .i64 (t : Int), .int .i64 (me : Int), .int .i64 ((i : Int) + 1), .int .i64 ((rc me 0 i : Nat) : Int), .int .i64 ((rc me 1 i : Nat) : Int), .int .i64 ((rc me 2 i : Nat) : Int), .int .i64 ((rc me 3 i : Nat) : Int), .int .i64 ((rc me 4 i : Nat) : Int), .int .i64 (cm.k.num : Int), .string cm.word, .int .i64 (cm.count : Int)] := by
  simp only [itemCells, h, Option.getD_some, entCells_rc]
  rfl

set_option maxRecDepth 100000 in
set_option maxHeartbeats 8000000 in
theorem qpush_any (rb me : Nat) (log : List Cm) (its : List (Nat × Nat)) (hl : its.length ≤ 100) (t i : Nat) (cm : Cm) (hi : log[i]? = some cm) (wv : Value) (C : Array Value) (T : TypeId) (w : World) (hrb : w.heap[rb]? = some (.cells C T (0, 0))) (h11 : C[11]? = some wv)
    (hrow : w.ownsRow 0 171 12 wv its.length (boxC me log its)) (hne : wv.ownBlock ≠ some rb) :
    Calls Tryz.prog 235 #[.pointer (some ⟨rb, 11, none⟩), .iface 171 (.agg #[.int .i64 0, .int .i64 (t : Int), .int .i64 (me : Int), .int .i64 ((i : Int) + 1), .int .i64 ((rc me 0 i : Nat) : Int), .int .i64 ((rc me 1 i : Nat) : Int), .int .i64 ((rc me 2 i : Nat) : Int), .int .i64 ((rc me 3 i : Nat) : Int), .int .i64 ((rc me 4 i : Nat) : Int), .int .i64 (cm.k.num : Int), .string cm.word, .int .i64 (cm.count : Int)])] w fun e w' =>
      e = .returned (.tuple #[]) ∧ ∃ g cap, w'.ownsRow 0 171 12 (.slice (some ⟨g, 0, none⟩) (its.length + 1) cap) (its.length + 1) (boxC me log (its ++ [(t, i)])) ∧ (wv.ownBlock = some g ∨ w.heap.size ≤ g) ∧ g ≠ rb ∧
        w'.heap[rb]? = some (.cells (C.setIfInBounds 11 (.slice (some ⟨g, 0, none⟩) (its.length + 1) cap)) T (0, 0)) ∧ Upd [some rb, wv.ownBlock] w w' := by
  obtain ⟨pe, cape, hev⟩ : ∃ p c, wv = .slice p its.length c := by
    rcases hrow.2 with ⟨h1, h0⟩ | ⟨g, cap', _, h1, _⟩
    · rw [h0]; exact ⟨_, _, h1⟩
    · exact ⟨_, _, h1⟩
  obtain ⟨i3, hi3, hy0, hy1, hy2⟩ := info_parts Tryz.info_item
  have hrl : rb < w.heap.size := (Array.getElem?_eq_some_iff.1 hrb).1
  have c4 : w.cell? ⟨rb, 11, none⟩ = some (.slice pe its.length cape) := by rw [cell_of_heap hrb, h11, hev]
  have fz : w.frozen? ⟨rb, 11, none⟩ = false := frozen_of_heap hrb _
  have HE : Hid (wv = .slice pe its.length cape) := hev
  have HRB : Hid (w.heap[rb]? = some (.cells C T (0, 0))) := hrb
  have HL : Hid (boxC me log (its ++ [(t, i)]) = boxC me log its ++ [.int .i64 0, .int .i64 (t : Int), .int .i64 (me : Int), .int .i64 ((i : Int) + 1), .int .i64 ((rc me 0 i : Nat) : Int), .int .i64 ((rc me 1 i : Nat) : Int), .int .i64 ((rc me 2 i : Nat) : Int), .int .i64 ((rc me 3 i : Nat) : Int), .int .i64 ((rc me 4 i : Nat) : Int), .int .i64 (cm.k.num : Int), .string cm.word, .int .i64 (cm.count : Int)]) := by
    show _ = _
    rw [boxC_snoc, itemCells_rc me log t i cm hi]
  rw [hev] at hrow hne
  have HR : Hid (w.ownsRow 0 171 12 (.slice pe its.length cape) its.length (boxC me log its)) := hrow
  clear hrow hev hrb h11 hi
  generalize hL : its.length = L at *
  generalize ((rc me 0 i : Nat) : Int) = r0 at *
  generalize ((rc me 1 i : Nat) : Int) = r1 at *
  generalize ((rc me 2 i : Nat) : Int) = r2 at *
  generalize ((rc me 3 i : Nat) : Int) = r3 at *
  generalize ((rc me 4 i : Nat) : Int) = r4 at *
  have hta : ∀ v W, (Instr.typeAssert (.iface 171 v) 20 171 false).run Tryz.prog W = .ok v W := fun v W => by kernel_rfl
  go_enter Tryz.func235, Tryz.ntmps235
  generalize hb0 : w.heap.size = b0 at *
  have k4 : ∀ o, (w.alloc o).cell? ⟨rb, 11, none⟩ = some (.slice pe L cape) := fun o => (World.cell?_of_block (a := ⟨rb, 11, none⟩) (Below.heap_alloc w o rb (by omega))).trans c4
  have kf : ∀ o, (w.alloc o).frozen? ⟨rb, 11, none⟩ = false := fun o => (World.frozen?_of_block (a := ⟨rb, 11, none⟩) (Below.heap_alloc w o rb (by omega))).trans fz
  go_upto_region 0 with fail
  go_region_law
    ((refine step_append_lies _ (by rfl) _ _ _ (by rfl) 0 171 i3 _ 12 104 Tryz.underlying108 hi3 hy0 hy1 hy2 rfl (by omega) (.slice pe L cape) L (boxC me log its) (by rfl) (Upd.owns (S := []) (Upd.drew (Upd.alloc (Upd.refl _ _) _)) HR.out (by simp))
        ⟨b0, 0, none⟩ 1 1 [.int .i64 0, .int .i64 (t : Int), .int .i64 (me : Int), .int .i64 ((i : Int) + 1), .int .i64 r0, .int .i64 r1, .int .i64 r2, .int .i64 r3, .int .i64 r4, .int .i64 (cm.k.num : Int), .string cm.word, .int .i64 (cm.count : Int)] (by rfl) (by rfl) (World.news_of_block (cs := #[.int .i64 0, .int .i64 (t : Int), .int .i64 (me : Int), .int .i64 ((i : Int) + 1), .int .i64 r0, .int .i64 r1, .int .i64 r2, .int .i64 r3, .int .i64 r4, .int .i64 (cm.k.num : Int), .string cm.word, .int .i64 (cm.count : Int)]) (t := 171) (fr := (0, 0)) (by rw [← hb0]; exact heap_alloc_new w _)) (by simp [Value.oneCell'])
        (by omega) (by unfold maxLen; omega) (by omega) (by first | (simp; done) | (simp; omega)) (b0 + 1) (by simp [hb0]) ?_; intro g5 cap5 w5 hown5 hgrow hat5 hlt5; have s2 : w5.cell? ⟨rb, 11, none⟩ = some (.slice pe L cape) := (hgrow.cell_far ⟨rb, 11, none⟩ (by first | (simp; done) | (simp; omega)) (Ne.symm hne)).trans (k4 _); have sf : w5.frozen? ⟨rb, 11, none⟩ = false := (hgrow.frozen_far ⟨rb, 11, none⟩ (by first | (simp; done) | (simp; omega)) (Ne.symm hne)).trans (kf _)))
  all_goals
    have u5 : Upd [(Value.slice pe L cape).ownBlock] w w5 := (((Upd.refl _ w).alloc _).drew).grown hgrow fun b hb => .inl (by simp [hb])
    have hg5 : g5 ≠ rb := by
      rcases hat5 with h | h
      · intro e; exact hne (e ▸ h)
      · omega
    have hr5 : w5.heap[rb]? = some (.cells C T (0, 0)) := (u5.block rb (by omega) (by simpa using Ne.symm hne)).trans HRB.out
    go_end0
    refine ⟨rfl, g5, cap5, ?_, ?_, hg5, heap_setCell_same hr5 _, ?_⟩
    · rw [HL.out]; exact owns_setCell_other hown5 (fun b hb => by cases hb; exact hg5) _
    · rw [HE.out]
      rcases hat5 with h | h
      · exact .inl h
      · exact .inr (by omega)
    · rw [HE.out]
      exact (u5.mono fun i hi => List.mem_cons_of_mem _ hi).setCell (.inl (by simp)) _

end Go.Proofs.YtckmppkdpnhodaaGreatDoor
