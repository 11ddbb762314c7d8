/-
  Contract of (*World).asks: Known is held to what was known. The end of (*World).asks: the list that came out is given to the book; what has become of the world. The world of the statements in memory: which block holds what (by colours: no two things have a block in common), and what it reads as. The replicas are held by a predicate R of their own.
-/
import Derived.Test.YtckmppkdpnhodaaGreatDoorT02
import Derived.Test.YtckmppkdpnhodaaGreatDoorT04
namespace Go.Proofs.YtckmppkdpnhodaaGreatDoor
set_option linter.unusedVariables false
set_option linter.unusedSimpArgs false
open Go.RowKit

def ints (xs : List Nat) : List Value := xs.map fun (x : Nat) => .int .i64 (x : Int)

theorem NatsAt.of_owns {w : World} {base : Nat} {e : TypeId} {v : Value} {xs : List Nat} (h : w.ownsRow base e 1 v xs.length (ints xs)) : NatsAt w v xs := by
  rcases id h.2 with ⟨rfl, h0⟩ | ⟨g, cap, cur, hv, hb, hg, h1, h2, h3, h4⟩
  · have : xs = [] := List.length_eq_zero_iff.1 h0
    subst this
    exact ⟨none, 0, rfl, fun i x hx => by simp at hx⟩
  · refine ⟨some ⟨g, 0, none⟩, cap, hv, fun i x hx => ⟨g, rfl, ?_⟩⟩
    have := h.cells (g := g) (by rw [hv]; rfl) i (.int .i64 (x : Int)) (by simp [ints, hx])
    rwa [Addr.add_mid, Nat.zero_add] at this

/-- The trace lies in blocks of P. -/
def TraceIn (P : Nat → Prop) (w : World) (v : Value) (tr : List Dn) : Prop :=
  ∃ p cap, v = .slice p tr.length cap ∧ ∀ (i : Nat) (d : Dn), tr[i]? = some d → ∃ g bv, p = some ⟨g, 0, none⟩ ∧ P g ∧
    w.cell? ⟨g, i * 7, none⟩ = some (.int .i64 (d.org : Int)) ∧ w.cell? ⟨g, i * 7 + 1, none⟩ = some (.int .i64 (d.seq : Int)) ∧
    w.cell? ⟨g, i * 7 + 2, none⟩ = some (.string d.text) ∧ w.cell? ⟨g, i * 7 + 3, none⟩ = some (.string d.c.k.bs) ∧
    w.cell? ⟨g, i * 7 + 4, none⟩ = some (.string d.c.word) ∧ w.cell? ⟨g, i * 7 + 5, none⟩ = some (.int .i64 (d.c.count : Int)) ∧
    w.cell? ⟨g, i * 7 + 6, none⟩ = some bv ∧ NatsAt w bv d.bef ∧ (∀ b, bv.ownBlock = some b → P b) ∧ d.bef.length ≤ maxLen

theorem TraceIn.at {P : Nat → Prop} {w : World} {v : Value} {tr : List Dn} (h : TraceIn P w v tr) : TraceAt w v tr := by
  obtain ⟨p, cap, hv, hc⟩ := h
  refine ⟨p, cap, hv, fun i d hd => ?_⟩
  obtain ⟨g, bv, hg, -, c0, c1, c2, c3, c4, c5, c6, hn, -, hl⟩ := hc i d hd
  exact ⟨g, bv, hg, c0, c1, c2, c3, c4, c5, c6, hn, hl⟩

theorem NatsAt.same {w w' : World} {v : Value} {xs : List Nat} (h : NatsAt w v xs) (hs : ∀ b, v.ownBlock = some b → b < w.heap.size → w'.heap[b]? = w.heap[b]?) : NatsAt w' v xs := by
  obtain ⟨p, cap, rfl, hc⟩ := h
  refine ⟨p, cap, rfl, fun i x hx => ?_⟩
  obtain ⟨g, rfl, hcell⟩ := hc i x hx
  exact ⟨g, rfl, (World.cell?_of_block (a := ⟨g, i, none⟩) (hs g rfl (World.block_lt_of_cell? w _ hcell))).trans hcell⟩

theorem TraceIn.same {P : Nat → Prop} {w w' : World} {v : Value} {tr : List Dn} (h : TraceIn P w v tr) (hs : ∀ b, P b → b < w.heap.size → w'.heap[b]? = w.heap[b]?) : TraceIn P w' v tr := by
  obtain ⟨p, cap, hv, hc⟩ := h
  refine ⟨p, cap, hv, fun i d hd => ?_⟩
  obtain ⟨g, bv, hg, hP, c0, c1, c2, c3, c4, c5, c6, hn, hb, hl⟩ := hc i d hd
  have hk : ∀ j u, w.cell? ⟨g, j, none⟩ = some u → w'.cell? ⟨g, j, none⟩ = some u := fun j u hu =>
    (World.cell?_of_block (a := ⟨g, j, none⟩) (hs g hP (World.block_lt_of_cell? w _ hu))).trans hu
  exact ⟨g, bv, hg, hP, hk _ _ c0, hk _ _ c1, hk _ _ c2, hk _ _ c3, hk _ _ c4, hk _ _ c5, hk _ _ c6, hn.same fun b hb' hl => hs b (hb b hb') hl, hb, hl⟩

theorem TraceIn.upd {P : Nat → Prop} {S : List (Option Nat)} {w w' : World} {v : Value} {tr : List Dn} (h : TraceIn P w v tr) (hu : Upd S w w') (hP : ∀ b, P b → some b ∉ S) : TraceIn P w' v tr :=
  h.same fun b hb hl => hu.block b hl (hP b hb)

def dnAt (tr : List Dn) (p : Nat) : Dn := tr[p]?.getD dn0
theorem dnAt_of {tr : List Dn} {p : Nat} (h : p < tr.length) : dnAt tr p = tr[p] := by simp [dnAt, h]

/-- The commands at these places, as cells of a list of api.Op. -/
def opCells (tr : List Dn) (ids : List Nat) : List Value := ids.flatMap fun p => [.int .i64 ((dnAt tr p).org : Int), .int .i64 ((dnAt tr p).seq : Int), .string (dnAt tr p).text]

theorem opCells_length (tr : List Dn) (ids : List Nat) : (opCells tr ids).length = ids.length * 3 := by
  induction ids with
  | nil => rfl
  | cons a l ih => simp [opCells] at ih ⊢; omega

theorem opCells_get (tr : List Dn) : ∀ (ids : List Nat) (i : Nat) (h : i < ids.length), (opCells tr ids)[i * 3]? = some (.int .i64 ((dnAt tr ids[i]).org : Int)) ∧ (opCells tr ids)[i * 3 + 1]? = some (.int .i64 ((dnAt tr ids[i]).seq : Int)) ∧ (opCells tr ids)[i * 3 + 2]? = some (.string (dnAt tr ids[i]).text)
  | [], i, h => by simp at h
  | a :: l, 0, h => by simp [opCells]
  | a :: l, i + 1, h => by
    have ih := opCells_get tr l i (by simpa using h)
    have e : opCells tr (a :: l) = [.int .i64 ((dnAt tr a).org : Int), .int .i64 ((dnAt tr a).seq : Int), .string (dnAt tr a).text] ++ opCells tr l := by simp [opCells]
    rw [e]
    refine ⟨?_, ?_, ?_⟩
    · rw [List.getElem?_append_right (by simp; omega)]; simpa [Nat.add_mul] using ih.1
    · rw [List.getElem?_append_right (by simp; omega)]
      have : (i + 1) * 3 + 1 - 3 = i * 3 + 1 := by omega
      simpa [this] using ih.2.1
    · rw [List.getElem?_append_right (by simp; omega)]
      have : (i + 1) * 3 + 2 - 3 = i * 3 + 2 := by omega
      simpa [this] using ih.2.2

/-- What is known of the places of the commands that a replica tells. -/
structure Told (tr : List Dn) (ids : List Nat) : Prop where
  nodup : ids.Nodup
  lt : ∀ p ∈ ids, p < tr.length
  first : ∀ p ∈ ids, ∀ j (h : j < tr.length), j < p → ¬ (tr[j].org = (dnAt tr p).org ∧ tr[j].seq = (dnAt tr p).seq)
  bef : ∀ i (h : i < ids.length), ∀ y ∈ (dnAt tr ids[i]).bef, y ∈ ids.take i

/-- What asks owns of the world behind Known. -/
structure AskMem (w1 : World) (S : List (Option Nat)) (kb k : Nat) (KB : Array Value) (Tk : TypeId) (u : Value) (ids : List Nat) (j : Nat) (wr : World) : Prop where
  up : Upd S w1 wr
  row : ∃ u', wr.heap[kb]? = some (.cells (KB.setIfInBounds k u') Tk (0, 0)) ∧ wr.ownsRow 0 3 1 u' j (ints (ids.take j)) ∧ (∀ b, u'.ownBlock = some b → u.ownBlock = some b ∨ w1.heap.size ≤ b)

theorem take_get {ids : List Nat} {j i x : Nat} (h : (ids.take j)[i]? = some x) : i < j ∧ ids[i]? = some x := by
  rw [List.getElem?_take] at h
  split at h
  · exact ⟨by assumption, h⟩
  · cases h

/-- What a round of asks reads. -/
structure AskF (P : Nat → Prop) (wb kb k nk capk : Nat) (tv u' l : Value) (tr : List Dn) (ids : List Nat) (j : Nat) (W : World) : Prop where
  c2 : W.cell? ⟨wb, 2, none⟩ = some tv
  c3 : W.cell? ⟨wb, 3, none⟩ = some (.slice (some ⟨kb, 0, none⟩) nk capk)
  ck : W.cell? ⟨kb, k, none⟩ = some u'
  fk : W.frozen? ⟨kb, k, none⟩ = false
  trace : TraceIn P W tv tr
  row : W.ownsRow 0 3 1 u' j (ints (ids.take j))
  lrow : W.ownsRow 0 68 3 l ids.length (opCells tr ids)

theorem AskF.below {P : Nat → Prop} {wb kb k nk capk j : Nat} {tv u' l : Value} {tr : List Dn} {ids : List Nat} {W W' : World} (h : AskF P wb kb k nk capk tv u' l tr ids j W) (hb : Below W.heap.size W W') : AskF P wb kb k nk capk tv u' l tr ids j W' :=
  ⟨cell_below hb h.c2, cell_below hb h.c3, cell_below hb h.ck, (hb.frozen (p := ⟨kb, k, none⟩) (World.block_lt_of_cell? W _ h.ck)).trans h.fk, h.trace.same fun b _ hl => hb.block b hl,
   (Upd.of_below (S := []) hb).owns h.row (by simp), (Upd.of_below (S := []) hb).owns h.lrow (by simp)⟩

theorem AskF.place {P : Nat → Prop} {wb kb k nk capk j : Nat} {tv u' l : Value} {tr : List Dn} {ids : List Nat} {W : World} (h : AskF P wb kb k nk capk tv u' l tr ids j W) (told : Told tr ids) (hl : tr.length ≤ maxLen) {i : Nat} (hi : i < ids.length) :
    Calls Tryz.prog 65 #[.pointer (some ⟨wb, 0, none⟩), .agg #[.int .i64 ((dnAt tr ids[i]).org : Int), .int .i64 ((dnAt tr ids[i]).seq : Int), .string (dnAt tr ids[i]).text]] W fun e w' => e = .returned (.int .i64 (ids[i] : Int)) ∧ Below W.heap.size W w' := by
  have hp : ids[i] < tr.length := told.lt _ (List.getElem_mem hi)
  have e := dnAt_of hp
  have hf := told.first _ (List.getElem_mem hi)
  rw [e] at hf ⊢
  exact place_at wb tv tr ids[i] W h.c2 h.trace.at hl hp hf

theorem AskF.lcells {P : Nat → Prop} {wb kb k nk capk j : Nat} {tv u' : Value} {p : Option Addr} {capl : Nat} {tr : List Dn} {ids : List Nat} {W : World} (h : AskF P wb kb k nk capk tv u' (.slice p ids.length capl) tr ids j W) {i : Nat} (hi : i < ids.length) :
    ∃ g, p = some ⟨g, 0, none⟩ ∧ W.cell? ⟨g, i * 3, none⟩ = some (.int .i64 ((dnAt tr ids[i]).org : Int)) ∧ W.cell? ⟨g, i * 3 + 1, none⟩ = some (.int .i64 ((dnAt tr ids[i]).seq : Int)) ∧ W.cell? ⟨g, i * 3 + 2, none⟩ = some (.string (dnAt tr ids[i]).text) := by
  obtain ⟨g, cap0, hv, -, -⟩ := h.lrow.form (by omega)
  obtain ⟨rfl, -, rfl⟩ : p = some ⟨g, 0, none⟩ ∧ True ∧ capl = cap0 := by simpa using hv
  obtain ⟨m0, m1, m2⟩ := opCells_get tr ids i hi
  have c := h.lrow.cells (g := g) rfl
  have c0 := c _ _ m0
  have c1 := c _ _ m1
  have c2 := c _ _ m2
  rw [Addr.add_mid, Nat.zero_add] at c0 c1 c2
  exact ⟨g, rfl, c0, c1, c2⟩

theorem NatsAt.of_owns_take {w : World} {base : Nat} {e : TypeId} {v : Value} {ids : List Nat} {j : Nat} (hj : j ≤ ids.length) (h : w.ownsRow base e 1 v j (ints (ids.take j))) : NatsAt w v (ids.take j) := by
  have e' : j = (ids.take j).length := by simp; omega
  exact NatsAt.of_owns (by rw [← e']; exact h)

theorem AskF.ucell {P : Nat → Prop} {wb kb k nk capk j m : Nat} {tv l : Value} {p : Option Addr} {capu : Nat} {tr : List Dn} {ids : List Nat} {W : World} (h : AskF P wb kb k nk capk tv (.slice p m capu) l tr ids m W) (hj : j < ids.length) (hjm : j < m) (hm : m ≤ ids.length) :
    ∃ g, p = some ⟨g, 0, none⟩ ∧ W.cell? ⟨g, j, none⟩ = some (.int .i64 (ids[j] : Int)) := by
  obtain ⟨q, c, hv, hc⟩ := NatsAt.of_owns_take hm h.row
  obtain ⟨g, hg, hcell⟩ := hc j ids[j] (by rw [List.getElem?_take_of_lt hjm, List.getElem?_eq_getElem hj])
  simp only [Value.slice.injEq] at hv
  exact ⟨g, hv.1.trans hg, hcell⟩

theorem not_mem_take {ids : List Nat} (h : ids.Nodup) {j : Nat} (hj : j < ids.length) : ids[j] ∉ ids.take j := by
  intro hm
  have hd : ids = ids.take j ++ ids[j] :: ids.drop (j + 1) := by rw [← List.drop_eq_getElem_cons hj, List.take_append_drop]
  rw [hd, List.nodup_append] at h
  exact h.2.2 _ hm _ (List.mem_cons_self ..) rfl

theorem AskMem.below {w1 : World} {S : List (Option Nat)} {kb k : Nat} {KB : Array Value} {Tk : TypeId} {u : Value} {ids : List Nat} {j : Nat} {wr w' : World} (h : AskMem w1 S kb k KB Tk u ids j wr) (hb : Below wr.heap.size wr w') : AskMem w1 S kb k KB Tk u ids j w' := by
  obtain ⟨up, u', hk, hrow, hub⟩ := h
  exact ⟨up.below hb, u', (hb.block kb (Array.getElem?_eq_some_iff.1 hk).1).trans hk, (Upd.of_below (S := []) hb).owns hrow (by simp), hub⟩

/-- A command more is known: behind the append and the store. -/
theorem AskMem.push {w1 : World} {kb k : Nat} {KB : Array Value} {Tk : TypeId} {u u' : Value} {ids : List Nat} {j pp : Nat} {wa w4 W4 w5 : World} {g5 cap5 H B1 : Nat}
    (h : AskMem w1 [some kb, u.ownBlock] kb k KB Tk u ids j wa) (hb4 : Below wa.heap.size wa w4) (hk4 : w4.heap[kb]? = some (.cells (KB.setIfInBounds k u') Tk (0, 0))) (hub : ∀ b, u'.ownBlock = some b → u.ownBlock = some b ∨ B1 ≤ b) (hB1 : w1.heap.size = B1)
    (hu2 : u.ownBlock ≠ some kb) (hkb : kb < B1) (hW : Upd [] w4 W4) (hg : W4.grownBy w5 u'.ownBlock) (hat : u'.ownBlock = some g5 ∨ g5 = H) (hH : w4.heap.size ≤ H)
    (hown : w5.ownsRow 0 3 1 (.slice (some ⟨g5, 0, none⟩) (j + 1) cap5) (j + 1) (ints (ids.take j) ++ [.int .i64 (pp : Int)])) (hsn : ids.take (j + 1) = ids.take j ++ [pp]) :
    AskMem w1 [some kb, u.ownBlock] kb k KB Tk u ids (j + 1) (w5.setCell ⟨kb, k, none⟩ (.slice (some ⟨g5, 0, none⟩) (j + 1) cap5)) := by
  obtain ⟨up, -⟩ := h
  have s1 := up.size
  have s2 := hb4.size
  have s3 := hW.size
  have hkl : kb < W4.heap.size := by omega
  have hne : u'.ownBlock ≠ some kb := fun e => by rcases hub _ e with h | h; exact hu2 h; omega
  have hg5 : g5 ≠ kb := by
    rcases hat with h | h
    · exact fun e => hne (by rw [h, e])
    · omega
  have hk5 : w5.heap[kb]? = some (.cells (KB.setIfInBounds k u') Tk (0, 0)) := by
    rw [hg.block kb hkl (fun e => hne e.symm), hW.block kb (Array.getElem?_eq_some_iff.1 hk4).1 (by simp)]; exact hk4
  refine ⟨?_, .slice (some ⟨g5, 0, none⟩) (j + 1) cap5, ?_, ?_, ?_⟩
  · refine ((((up.below hb4).trans hW (by simp)).grown hg fun b hb => ?_).setCell (.inl (by simp)) _)
    rcases hub b hb with h | h
    · exact .inl (by simp [h])
    · exact .inr (by omega)
  · have := heap_setCell_same (o := k) hk5 (.slice (some ⟨g5, 0, none⟩) (j + 1) cap5)
    rw [Array.setIfInBounds_setIfInBounds] at this
    exact this
  · have := owns_setCell_other (a := ⟨kb, k, none⟩) hown (fun b hb e => by simp [Value.ownBlock] at hb; exact hg5 (by rw [hb, e])) (.slice (some ⟨g5, 0, none⟩) (j + 1) cap5)
    rw [hsn]
    simpa [ints] using this
  · intro b hb
    simp [Value.ownBlock] at hb
    subst hb
    rcases hat with h | h
    · rcases hub _ h with h | h
      · exact .inl h
      · exact .inr (by omega)
    · exact .inr (by omega)

/-- From what asks owns to what a round reads. -/
theorem AskMem.facts {P : Nat → Prop} {w w1 wr : World} {wb fb kb k nk capk j : Nat} {KB : Array Value} {Tk : TypeId} {u l : Value} {tv : Value} {tr : List Dn} {ids : List Nat} {X : Value}
    (h : AskMem (w1.setCell ⟨fb, k, none⟩ X) [some kb, u.ownBlock] kb k KB Tk u ids j wr) (hKB : KB[k]? = some u) (hT : TraceIn P w tv tr) (hb1 : Below w.heap.size w w1)
    (hP : ∀ b, P b → b ≠ wb ∧ b ≠ kb ∧ b ≠ fb ∧ u.ownBlock ≠ some b) (e1 : wb ≠ kb) (e2 : wb ≠ fb) (u1 : u.ownBlock ≠ some wb) (hfl : fb < w.heap.size) (hkl : kb < w.heap.size) (hul : ∀ b, u.ownBlock = some b → b < w.heap.size)
    (c2 : w1.cell? ⟨wb, 2, none⟩ = some tv) (c3 : w1.cell? ⟨wb, 3, none⟩ = some (.slice (some ⟨kb, 0, none⟩) nk capk)) (hl : w1.ownsRow w.heap.size 68 3 l ids.length (opCells tr ids)) :
    ∃ u', AskF P wb kb k nk capk tv u' l tr ids j wr ∧ wr.heap[kb]? = some (.cells (KB.setIfInBounds k u') Tk (0, 0)) ∧ (∀ b, u'.ownBlock = some b → u.ownBlock = some b ∨ w1.heap.size ≤ b) := by
  obtain ⟨up, u', hk, hrow, hub⟩ := h
  have hsz : (w1.setCell ⟨fb, k, none⟩ X).heap.size = w1.heap.size := by simp [World.setCell]
  rw [hsz] at hub
  have hlt := hb1.size
  have hks : k < KB.size := (Array.getElem?_eq_some_iff.1 hKB).1
  have hc : ∀ o v, w1.cell? ⟨wb, o, none⟩ = some v → wr.cell? ⟨wb, o, none⟩ = some v := fun o v hv =>
    up.cell ((World.cell?_of_block (a := ⟨wb, o, none⟩) (Below.heap_setCell _ _ _ _ e2)).trans hv) (by simp; exact ⟨e1, fun e => u1 e.symm⟩)
  refine ⟨u', ⟨hc _ _ c2, hc _ _ c3, ?_, frozen_of_heap hk k, ?_, hrow, ?_⟩, hk, hub⟩
  · rw [cell_of_heap hk, Array.getElem?_setIfInBounds_self_of_lt hks]
  · refine ((hT.same fun b _ hl => hb1.block b hl).same (w' := w1.setCell ⟨fb, k, none⟩ X) fun b hb _ => Below.heap_setCell _ _ _ _ (hP b hb).2.2.1).upd up fun b hb hm => ?_
    simp only [List.mem_cons, List.not_mem_nil, or_false, Option.some.injEq] at hm
    rcases hm with hm | hm
    · exact (hP b hb).2.1 hm
    · exact (hP b hb).2.2.2 hm.symm
  · refine (up.owns (owns_setCell_other (owns_base0 hl) (fun b hb e => ?_) _) fun b hb hm => ?_)
    · have := (hl.lt b hb).1
      simp at e; omega
    · have := (hl.lt b hb).1
      simp only [List.mem_cons, List.not_mem_nil, or_false, Option.some.injEq] at hm
      rcases hm with hm | hm
      · omega
      · have := hul b hm.symm; omega

end Go.Proofs.YtckmppkdpnhodaaGreatDoor

namespace Go.Proofs.YtckmppkdpnhodaaGreatDoor
set_option linter.unusedVariables false
set_option linter.unusedSimpArgs false
open Go.RowKit

/-- What asks leaves: the row of the known ones, the mark 'not fresh', the book. -/
structure AskPost (w w' : World) (wb kb fb k : Nat) (C KB FB : Array Value) (T Tk Tf : TypeId) (osv kov u : Value) (N : Nat) (us ks : List Value) (ids : List Nat) : Prop where
  up : Upd [some wb, some kb, some fb, u.ownBlock, osv.ownBlock, kov.ownBlock] w w'
  fresh : w'.heap[fb]? = some (.cells (FB.setIfInBounds k (.bool false)) Tf (0, 0))
  rest : ∃ u' osv' kov' l g h j, w'.heap[kb]? = some (.cells (KB.setIfInBounds k u') Tk (0, 0)) ∧ w'.ownsRow 0 3 1 u' ids.length (ints ids) ∧ (∀ b, u'.ownBlock = some b → u.ownBlock = some b ∨ w.heap.size ≤ b) ∧
    w'.heap[wb]? = some (.cells ((C.setIfInBounds 10 osv').setIfInBounds 11 kov') T (0, 0)) ∧
    w'.ownsRow 0 62 1 osv' (N + 4) (us ++ [l, g, h, j]) ∧ w'.ownsRow 0 3 1 kov' (N + 4) (ks ++ [.int .i64 (-1 - (N : Int)), .int .i64 (-1 - (N : Int)), .int .i64 (-1 - (N : Int)), .int .i64 (-1 - (N : Int))]) ∧
    MarksAt w' l ids.length (-1 - (N : Int)) ∧ MarksAt w' g (ids.length + 1) (-1 - (N : Int)) ∧ MarksAt w' h (ids.length + 2) (-1 - (N : Int)) ∧ MarksAt w' j (ids.length + 3) (-1 - (N : Int)) ∧
    (∀ b, osv'.ownBlock = some b → osv.ownBlock = some b ∨ w.heap.size ≤ b) ∧ (∀ b, kov'.ownBlock = some b → kov.ownBlock = some b ∨ w.heap.size ≤ b) ∧ (∀ x ∈ [l, g, h, j], ∀ b, x.ownBlock = some b → w.heap.size ≤ b ∧ b < w'.heap.size) ∧
    (∀ b, u'.ownBlock = some b → osv'.ownBlock ≠ some b ∧ kov'.ownBlock ≠ some b ∧ ∀ x ∈ [l, g, h, j], x.ownBlock ≠ some b) ∧
    (∀ b, osv'.ownBlock = some b → kov'.ownBlock ≠ some b ∧ ∀ x ∈ [l, g, h, j], x.ownBlock ≠ some b) ∧ (∀ b, kov'.ownBlock = some b → ∀ x ∈ [l, g, h, j], x.ownBlock ≠ some b)

theorem MarksAt.lt {w : World} {u : Value} {m : Nat} {k : Int} (h : MarksAt w u m k) (hm : 0 < m) {b : Nat} (hb : u.ownBlock = some b) : b < w.heap.size := by
  obtain ⟨p, cap, rfl, hc⟩ := h
  obtain ⟨g, rfl, c0, -, -⟩ := hc 0 hm
  simp [Value.ownBlock] at hb
  subst hb
  exact World.block_lt_of_cell? w _ c0

theorem ask_ops {wb kb fb k : Nat} {C KB FB : Array Value} {T Tk Tf : TypeId} {osv kov u : Value} {N : Nat} {us ks : List Value} {ids : List Nat} {tr : List Dn} {w w1 wa : World} {pl : Option Addr} {capl : Nat}
    (hwb : w.heap[wb]? = some (.cells C T (0, 0))) (hC : C.size = 14) (h10 : C[10]? = some osv) (h11 : C[11]? = some kov) (hkb : w.heap[kb]? = some (.cells KB Tk (0, 0)))
    (hfb : w.heap[fb]? = some (.cells FB Tf (0, 0))) (hos : w.ownsRow 0 62 1 osv N us) (hko : w.ownsRow 0 3 1 kov N ks) (hu0 : ∀ b, u.ownBlock = some b → b < w.heap.size) (hN : N ≤ 100000000000) (hil : ids.length ≤ 10000000000)
    (e1 : wb ≠ kb) (e2 : wb ≠ fb) (e3 : kb ≠ fb) (u1 : u.ownBlock ≠ some wb) (u2 : u.ownBlock ≠ some kb) (u3 : u.ownBlock ≠ some fb)
    (o1 : osv.ownBlock ≠ some wb) (o2 : osv.ownBlock ≠ some kb) (o3 : osv.ownBlock ≠ some fb) (o4 : ∀ b, osv.ownBlock = some b → u.ownBlock ≠ some b)
    (q1 : kov.ownBlock ≠ some wb) (q2 : kov.ownBlock ≠ some kb) (q3 : kov.ownBlock ≠ some fb) (q4 : ∀ b, kov.ownBlock = some b → u.ownBlock ≠ some b) (q5 : ∀ b, osv.ownBlock = some b → kov.ownBlock ≠ some b)
    (hb1 : Below w.heap.size w w1) (hl : w1.ownsRow w.heap.size 68 3 (.slice pl ids.length capl) ids.length (opCells tr ids))
    (ham : AskMem (w1.setCell ⟨fb, k, none⟩ (.bool false)) [some kb, u.ownBlock] kb k KB Tk u ids ids.length wa) :
    Calls Tryz.prog 67 #[.pointer (some ⟨wb, 8, none⟩), .slice pl ids.length capl] wa fun e w' => e = .returned (.tuple #[]) ∧ AskPost w w' wb kb fb k C KB FB T Tk Tf osv kov u N us ks ids := by
  obtain ⟨up, u', hk, hrow, hub⟩ := ham
  have hwbl := (Array.getElem?_eq_some_iff.1 hwb).1
  have hkbl := (Array.getElem?_eq_some_iff.1 hkb).1
  have hfbl := (Array.getElem?_eq_some_iff.1 hfb).1
  have s1 := hb1.size
  have hsz : (w1.setCell ⟨fb, k, none⟩ (.bool false)).heap.size = w1.heap.size := by simp [World.setCell]
  rw [hsz] at hub
  have s2 := up.size
  rw [hsz] at s2
  -- from w to wa
  have upA : Upd [some kb, some fb, u.ownBlock] w wa := by
    refine ((Upd.of_below hb1).setCell (p := ⟨fb, k, none⟩) (.inl (by simp)) (.bool false)).trans up fun i hi => .inl ?_
    simp only [List.mem_cons, List.not_mem_nil, or_false] at hi ⊢
    rcases hi with hi | hi <;> simp [hi]
  have nS : ∀ b, b ≠ kb → b ≠ fb → u.ownBlock ≠ some b → some b ∉ [some kb, some fb, u.ownBlock] := fun b a1 a2 a3 hm => by
    simp only [List.mem_cons, List.not_mem_nil, or_false, Option.some.injEq] at hm
    rcases hm with hm | hm | hm
    · exact a1 hm
    · exact a2 hm
    · exact a3 hm.symm
  have hwa : wa.heap[wb]? = some (.cells C T (0, 0)) := (upA.block wb hwbl (nS wb e1 e2 u1)).trans hwb
  have hosA := upA.owns hos fun b hb => nS b (fun e => o2 (by rw [hb, e])) (fun e => o3 (by rw [hb, e])) (o4 b hb)
  have hkoA := upA.owns hko fun b hb => nS b (fun e => q2 (by rw [hb, e])) (fun e => q3 (by rw [hb, e])) (q4 b hb)
  have hlA : wa.ownsRow 0 68 3 (.slice pl ids.length capl) ids.length (opCells tr ids) := by
    refine up.owns (owns_setCell_other (owns_base0 hl) (fun b hb e => ?_) _) fun b hb hm => ?_
    · have := (hl.lt b hb).1
      simp at e; omega
    · have := (hl.lt b hb).1
      simp only [List.mem_cons, List.not_mem_nil, or_false, Option.some.injEq] at hm
      rcases hm with hm | hm
      · omega
      · have := hu0 b hm.symm; omega
  have hln : ∀ b, (Value.slice pl ids.length capl).ownBlock = some b → w.heap.size ≤ b ∧ b < w1.heap.size := fun b hb => hl.lt b hb
  have hfa : wa.heap[fb]? = some (.cells (FB.setIfInBounds k (.bool false)) Tf (0, 0)) := by
    rw [up.block fb (by rw [hsz]; omega) (by
      intro hm
      simp only [List.mem_cons, List.not_mem_nil, or_false, Option.some.injEq] at hm
      rcases hm with hm | hm
      · exact e3 hm.symm
      · exact u3 hm.symm)]
    exact heap_setCell_same ((hb1.block fb hfbl).trans hfb) _
  refine (ops_any wb C T osv kov N us ks pl ids.length capl (opCells tr ids) wa hwa hC h10 h11 hosA hkoA hlA o1 q1 q5 (fun e => by have := (hln _ e).1; omega)
    (fun b hb => ⟨fun e => by have := (hos.lt b e).2; have := (hln b hb).1; omega, fun e => by have := (hko.lt b e).2; have := (hln b hb).1; omega⟩) hN (by omega)).mono fun e w' ⟨he, osv', kov', g, h, j, p1, p2, p3, p4, p5, p6, p7, p8, p9, p10, p11, p12, p13, p14, p15⟩ => ⟨he, ?_⟩
  have hnew : ∀ b, b ≠ wb → osv.ownBlock ≠ some b → kov.ownBlock ≠ some b → (Value.slice pl ids.length capl).ownBlock ≠ some b → some b ∉ [some wb, osv.ownBlock, kov.ownBlock, (Value.slice pl ids.length capl).ownBlock] := fun b a1 a2 a3 a4 hm => by
    simp only [List.mem_cons, List.not_mem_nil, or_false, Option.some.injEq] at hm
    rcases hm with hm | hm | hm | hm
    · exact a1 hm
    · exact a2 hm.symm
    · exact a3 hm.symm
    · exact a4 hm.symm
  have hub' : ∀ b, u'.ownBlock = some b → u.ownBlock = some b ∨ w.heap.size ≤ b := fun b hb => by
    rcases hub b hb with h | h
    · exact .inl h
    · exact .inr (by omega)
  have hul : ∀ b, u'.ownBlock = some b → b < wa.heap.size := fun b hb => (hrow.lt b hb).2
  refine ⟨?_, ?_, u', osv', kov', _, g, h, j, ?_, ?_, hub', p1, p2, p3, p4, p5, p6, p7, ?_, ?_, ?_, ?_, p14, p15⟩
  · refine (upA.mono fun i hi => ?_).trans p8 fun i hi => ?_
    · simp only [List.mem_cons, List.not_mem_nil, or_false] at hi ⊢
      rcases hi with hi | hi | hi <;> simp [hi]
    · simp only [List.mem_cons, List.not_mem_nil, or_false] at hi ⊢
      rcases hi with hi | hi | hi | hi
      · simp [hi]
      · simp [hi]
      · simp [hi]
      · exact .inr (hln i hi.symm).1
  · rw [p8.block fb (by omega) (hnew fb (fun e => e2 e.symm) o3 q3 (fun e => by have := (hln _ e).1; omega))]; exact hfa
  · rw [p8.block kb (by omega) (hnew kb (fun e => e1 e.symm) o2 q2 (fun e => by have := (hln _ e).1; omega))]; exact hk
  · have := p8.owns hrow fun b hb => by
      rcases hub b hb with h' | h'
      · exact hnew b (fun e => u1 (by rw [h', e])) (fun e => o4 b e h') (fun e => q4 b e h') (fun e => by have := (hln _ e).1; have := hu0 b h'; omega)
      · exact hnew b (by omega) (fun e => by have := (hos.lt b e).2; omega) (fun e => by have := (hko.lt b e).2; omega) (fun e => by have := (hln _ e).2; omega)
    rwa [List.take_length] at this
  · intro b hb; rcases p9 b hb with h' | h'; exact .inl h'; exact .inr (by omega)
  · intro b hb; rcases p10 b hb with h' | h'; exact .inl h'; exact .inr (by omega)
  · intro x hx b hb
    simp only [List.mem_cons, List.not_mem_nil, or_false] at hx
    rcases hx with rfl | rfl | rfl | rfl
    · exact ⟨(hln b hb).1, by have := (hln b hb).2; have := p8.size; omega⟩
    · exact ⟨by rcases p11 b hb with h' | h'; exact (hln b h').1; omega, p5.lt (by omega) hb⟩
    · exact ⟨by rcases p12 b hb with h' | h'; exact (hln b h').1; omega, p6.lt (by omega) hb⟩
    · exact ⟨by rcases p13 b hb with h' | h'; exact (hln b h').1; omega, p7.lt (by omega) hb⟩
  · intro b hb
    have hbl := hul b hb
    have hx0 : ∀ x : Value, (∀ b, x.ownBlock = some b → (Value.slice pl ids.length capl).ownBlock = some b ∨ wa.heap.size ≤ b) → x.ownBlock ≠ some b := fun x hx e => by
      rcases hx b e with h' | h'
      · have h2 := hln b h'
        rcases hub b hb with h3 | h3
        · have := hu0 b h3; omega
        · omega
      · omega
    refine ⟨fun e => ?_, fun e => ?_, fun x hx => ?_⟩
    · rcases p9 b e with h' | h'
      · rcases hub b hb with h3 | h3
        · exact o4 b h' h3
        · have := (hos.lt b h').2; omega
      · omega
    · rcases p10 b e with h' | h'
      · rcases hub b hb with h3 | h3
        · exact q4 b h' h3
        · have := (hko.lt b h').2; omega
      · omega
    · simp only [List.mem_cons, List.not_mem_nil, or_false] at hx
      rcases hx with rfl | rfl | rfl | rfl
      · exact hx0 _ fun b hb => .inl hb
      · exact hx0 _ p11
      · exact hx0 _ p12
      · exact hx0 _ p13

end Go.Proofs.YtckmppkdpnhodaaGreatDoor

namespace Go.Proofs.YtckmppkdpnhodaaGreatDoor
set_option linter.unusedVariables false
set_option linter.unusedSimpArgs false
open Go.RowKit

/-- What the world holds. -/
structure St where
  n : Nat
  rbs : List Nat
  logs : List (List Cm)
  tr : List Dn
  xss : List (List Nat)
  since : List Nat
  fresh : List Bool
  bk : List (Nat × Int)

/-- Where it lies. -/
structure Lay where
  wb : Nat
  lb : Nat
  capl : Nat
  tv : Value
  bvs : List Value
  kb : Nat
  capk : Nat
  KB : Array Value
  sv : Value
  fb : Nat
  capf : Nat
  FB : Array Value
  osv : Value
  kov : Value
  us : List Value

/-- The cells of the world's own struct. -/
def Lay.C (L : Lay) (n : Nat) : Array Value :=
  #[.int .i64 (n : Int), .slice (some ⟨L.lb, 0, none⟩) n L.capl, L.tv, .slice (some ⟨L.kb, 0, none⟩) n L.capk, .slice none 0 0, L.sv, .slice (some ⟨L.fb, 0, none⟩) n L.capf, .bool false, .slice none 0 0, .slice none 0 0, L.osv, L.kov, .slice none 0 0, .slice none 0 0]

/-- The cells of the trace. -/
def traceCells (tr : List Dn) (bvs : List Value) : List Value :=
  (tr.zip bvs).flatMap fun x => [.int .i64 (x.1.org : Int), .int .i64 (x.1.seq : Int), .string x.1.text, .string x.1.c.k.bs, .string x.1.c.word, .int .i64 (x.1.c.count : Int), x.2]

variable (R : World → Nat → Nat → Nat → List Cm → (Nat → Prop) → Prop)

structure Mem (w : World) (c : Nat → Nat) (L : Lay) (st : St) : Prop where
  npos : 2 ≤ st.n ∧ st.n ≤ 5
  wbk : w.heap[L.wb]? = some (.cells (L.C st.n) 82 (0, 0))
  wbc : c L.wb = 1
  lbc : c L.lb = 2
  lcell : ∀ i (h : i < st.rbs.length), w.cell? ⟨L.lb, i, none⟩ = some (.pointer (some ⟨st.rbs[i], 0, none⟩))
  llen : st.rbs.length = st.n
  trow : w.ownsRow 0 91 7 L.tv st.tr.length (traceCells st.tr L.bvs)
  tvc : ∀ b, L.tv.ownBlock = some b → c b = 3
  blen : L.bvs.length = st.tr.length
  bef : ∀ i (h : i < st.tr.length) (h' : i < L.bvs.length), NatsAt w L.bvs[i] st.tr[i].bef ∧ (∀ b, L.bvs[i].ownBlock = some b → c b = 9 ∧ b < w.heap.size) ∧ st.tr[i].bef.length ≤ maxLen
  kbk : w.heap[L.kb]? = some (.cells L.KB 75 (0, 0))
  kbc : c L.kb = 4
  xlen : st.xss.length = st.n
  xrow : ∀ i (h : i < st.xss.length), ∃ u, L.KB[i]? = some u ∧ w.ownsRow 0 3 1 u st.xss[i].length (ints st.xss[i]) ∧ ∀ b, u.ownBlock = some b → c b = 10 + i
  slen : st.since.length = st.n
  srow : w.ownsRow 0 3 1 L.sv st.n (ints st.since)
  svc : ∀ b, L.sv.ownBlock = some b → c b = 5
  fbk : w.heap[L.fb]? = some (.cells L.FB 4 (0, 0))
  fbc : c L.fb = 6
  flen : st.fresh.length = st.n
  fcell : ∀ i (h : i < st.fresh.length), L.FB[i]? = some (.bool st.fresh[i])
  orow : w.ownsRow 0 62 1 L.osv st.bk.length L.us
  ovc : ∀ b, L.osv.ownBlock = some b → c b = 7
  marks : ∀ i (h : i < st.bk.length) (h' : i < L.us.length), MarksAt w L.us[i] st.bk[i].1 st.bk[i].2 ∧ ∀ b, L.us[i].ownBlock = some b → c b = 9 ∧ b < w.heap.size
  krow : w.ownsRow 0 3 1 L.kov st.bk.length (st.bk.map fun e => .int .i64 e.2)
  kvc : ∀ b, L.kov.ownBlock = some b → c b = 8
  logn : st.logs.length = st.n
  reps : ∀ i (h : i < st.logs.length) (h' : i < st.rbs.length), R w st.rbs[i] st.n i st.logs[i] fun b => c b = 20 + i

end Go.Proofs.YtckmppkdpnhodaaGreatDoor
