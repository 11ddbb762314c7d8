/-
  Contract of (ends).has, entries of whatever replica. Contract of cart.Of, entries of whatever replica: the cart of a log.
-/
import Derived.Test.YtckmppkdpnhodaaGreatDoorT12
import Derived.Test.YtckmppkdpnhodaaGreatDoorT05
namespace Go.Proofs.YtckmppkdpnhodaaGreatDoor
set_option linter.unusedVariables false
set_option linter.unusedSimpArgs false
open Go.RowKit Go.Proofs

attribute [local go_sem ↓] Go.wp_at_zero Go.wp_at_succ

/-- How many of the replica's commands what the entry put in has been ended by. -/
def goneR (E : List En) (x : En) : Rc :=
  match x.c.k with
  | .closed => (endR .listen E x.c.word.data.toList).getD Rc.zero
  | .established => (endR .finWait E x.c.word.data.toList).getD Rc.zero
  | .closeWait => noteR E
  | _ => Rc.zero

theorem reachHasG (g : Rc) (o s : Nat) (ho : o < 5) (w : World) :
    Calls Tryz.prog 130 #[.agg #[.int .i64 (g.a : Int), .int .i64 (g.b : Int), .int .i64 (g.c : Int), .int .i64 (g.d : Int), .int .i64 (g.e : Int)], .int .i64 (o : Int), .int .i64 (s : Int)] w fun e w' => e = .returned (.bool (decide (s ≤ g.get o))) ∧ Below w.heap.size w w' :=
  reachHas_any g.a g.b g.c g.d g.e o s ho (g.get o) (by
    rcases (show o = 0 ∨ o = 1 ∨ o = 2 ∨ o = 3 ∨ o = 4 by omega) with rfl | rfl | rfl | rfl | rfl <;> simp [Rc.get]) w

set_option maxRecDepth 100000 in
set_option maxHeartbeats 4000000 in
theorem has_endsG (b1 b2 n1 n2 : Nat) (E : List En) (x : En) (w : World) (h1 : MapIs w b1 n1 (endsG .listen E)) (h2 : MapIs w b2 n2 (endsG .finWait E)) :
    Calls Tryz.prog 91 #[.agg (endCellsG b1 b2 (noteR E)), x.val] w fun e w' => e = .returned (.bool (decide (x.seq ≤ (goneR E x).get x.org))) ∧ Below w.heap.size w w' := by
  have hw8 : x.c.word.size ≤ maxLen := by
    have := x.hc.word
    simp only [wordB, Bool.and_eq_true, decide_eq_true_eq] at this; unfold maxLen; omega
  have L1 : ∀ W, Below w.heap.size w W → (Instr.lookup 176 (.map (some b1)) (.string x.c.word) false).run Tryz.prog W = .ok (.agg #[.int .i64 (((endR .listen E x.c.word.data.toList).getD Rc.zero).a : Int), .int .i64 (((endR .listen E x.c.word.data.toList).getD Rc.zero).b : Int), .int .i64 (((endR .listen E x.c.word.data.toList).getD Rc.zero).c : Int), .int .i64 (((endR .listen E x.c.word.data.toList).getD Rc.zero).d : Int), .int .i64 (((endR .listen E x.c.word.data.toList).getD Rc.zero).e : Int)]) W := fun W hW => by
    rw [(h1.below hW).look Tryz.underlying176 (Tryz.zeroValue104 W) x.c.word hw8]
    have e := endsG_getD .listen E x.c.word.data.toList
    simp only [Rc.val, ag5] at e
    rw [← e]
  have L2 : ∀ W, Below w.heap.size w W → (Instr.lookup 176 (.map (some b2)) (.string x.c.word) false).run Tryz.prog W = .ok (.agg #[.int .i64 (((endR .finWait E x.c.word.data.toList).getD Rc.zero).a : Int), .int .i64 (((endR .finWait E x.c.word.data.toList).getD Rc.zero).b : Int), .int .i64 (((endR .finWait E x.c.word.data.toList).getD Rc.zero).c : Int), .int .i64 (((endR .finWait E x.c.word.data.toList).getD Rc.zero).d : Int), .int .i64 (((endR .finWait E x.c.word.data.toList).getD Rc.zero).e : Int)]) W := fun W hW => by
    rw [(h2.below hW).look Tryz.underlying176 (Tryz.zeroValue104 W) x.c.word hw8]
    have e := endsG_getD .finWait E x.c.word.data.toList
    simp only [Rc.val, ag5] at e
    rw [← e]
  have HH : Hid (∀ (g : Rc) W, Calls Tryz.prog 130 #[.agg #[.int .i64 (g.a : Int), .int .i64 (g.b : Int), .int .i64 (g.c : Int), .int .i64 (g.d : Int), .int .i64 (g.e : Int)], .int .i64 (x.org : Int), .int .i64 (x.seq : Int)] W fun e w' => e = .returned (.bool (decide (x.seq ≤ g.get x.org))) ∧ Below W.heap.size W w') := fun g W => reachHasG g x.org x.seq x.ho W
  have HZ : Hid (∀ W, Calls Tryz.prog 130 #[.agg #[.int .i64 0, .int .i64 0, .int .i64 0, .int .i64 0, .int .i64 0], .int .i64 (x.org : Int), .int .i64 (x.seq : Int)] W fun e w' => e = .returned (.bool (decide (x.seq ≤ Rc.zero.get x.org))) ∧ Below W.heap.size W w') := fun W => reachHasG Rc.zero x.org x.seq x.ho W
  have hG : ∀ g, goneR E x = g → goneR E x = g := fun _ h => h
  have B3 : ∀ o1 o2 o3, Below w.heap.size w (((w.alloc o1).alloc o2).alloc o3) := fun o1 o2 o3 => (((Below.refl _ w).alloc (Nat.le_refl _) _).alloc (by simp) _).alloc (by simp; omega) _
  have HB3 : Hid (∀ o1 o2 o3, Below w.heap.size w (((w.alloc o1).alloc o2).alloc o3)) := B3
  clear B3 h1 h2 hw8
  simp only [En.val, endCellsG]
  cases hk : x.c.k with
  | closed =>
    have hg : goneR E x = (endR .listen E x.c.word.data.toList).getD Rc.zero := by simp [goneR, hk]
    rw [hg]
    have l3 := fun o1 o2 o3 => L1 _ (HB3.out o1 o2 o3)
    clear L1 L2 hG hg
    generalize (endR .listen E x.c.word.data.toList).getD Rc.zero = g at *
    simp only [Kd.num]
    go_enter Tryz.func91, Tryz.ntmps91
    go_wp2_with (go_at_call 130; refine (HH.out g _).mono ?_; rintro e w1 ⟨rfl, hb1⟩)
    have HB := (HB3.out _ _ _).trans (hb1.mono (HB3.out _ _ _).size)
    clear HB3
    go_ret
    exact ⟨rfl, HB⟩
  | established =>
    have hg : goneR E x = (endR .finWait E x.c.word.data.toList).getD Rc.zero := by simp [goneR, hk]
    rw [hg]
    have l3 := fun o1 o2 o3 => L2 _ (HB3.out o1 o2 o3)
    clear L1 L2 hG hg
    generalize (endR .finWait E x.c.word.data.toList).getD Rc.zero = g at *
    simp only [Kd.num]
    go_enter Tryz.func91, Tryz.ntmps91
    go_wp2_with (go_at_call 130; refine (HH.out g _).mono ?_; rintro e w1 ⟨rfl, hb1⟩)
    have HB := (HB3.out _ _ _).trans (hb1.mono (HB3.out _ _ _).size)
    clear HB3
    go_ret
    exact ⟨rfl, HB⟩
  | closeWait =>
    have hg : goneR E x = noteR E := by simp [goneR, hk]
    rw [hg]
    clear L1 L2 hG hg
    generalize noteR E = g at *
    simp only [Kd.num]
    go_enter Tryz.func91, Tryz.ntmps91
    go_wp2_with (go_at_call 130; refine (HH.out g _).mono ?_; rintro e w1 ⟨rfl, hb1⟩)
    have HB := (HB3.out _ _ _).trans (hb1.mono (HB3.out _ _ _).size)
    clear HB3
    go_ret
    exact ⟨rfl, HB⟩
  | listen =>
    have hg : goneR E x = Rc.zero := by simp [goneR, hk]
    rw [hg]
    clear L1 L2 hG hg
    generalize decide (x.seq ≤ Rc.zero.get x.org) = res at *
    simp only [Kd.num]
    go_enter Tryz.func91, Tryz.ntmps91
    go_wp2_with (go_at_call 130; refine (HZ.out _).mono ?_; rintro e w1 ⟨rfl, hb1⟩)
    have HB := (HB3.out _ _ _).trans (hb1.mono (HB3.out _ _ _).size)
    clear HB3
    go_ret
    exact ⟨rfl, HB⟩
  | finWait =>
    have hg : goneR E x = Rc.zero := by simp [goneR, hk]
    rw [hg]
    clear L1 L2 hG hg
    generalize decide (x.seq ≤ Rc.zero.get x.org) = res at *
    simp only [Kd.num]
    go_enter Tryz.func91, Tryz.ntmps91
    go_wp2_with (go_at_call 130; refine (HZ.out _).mono ?_; rintro e w1 ⟨rfl, hb1⟩)
    have HB := (HB3.out _ _ _).trans (hb1.mono (HB3.out _ _ _).size)
    clear HB3
    go_ret
    exact ⟨rfl, HB⟩

end Go.Proofs.YtckmppkdpnhodaaGreatDoor

namespace Go.Proofs.YtckmppkdpnhodaaGreatDoor
set_option linter.unusedVariables false
set_option linter.unusedSimpArgs false
open Go.RowKit Go.Proofs Go.Shelf

attribute [local go_sem] Oper.semAt_some

/-- The cart of the entries pre, where E is all that is known. -/
def cartG (E pre : List En) : CartS := pre.foldl (fun S x => if x.seq ≤ (goneR E x).get x.org then S else putC S x.c) .empty

theorem cartG_snoc (E pre : List En) (x : En) : cartG E (pre ++ [x]) = if x.seq ≤ (goneR E x).get x.org then cartG E pre else putC (cartG E pre) x.c := by simp [cartG]

structure OfG (b0 e1 e2 b3 c : Nat) (w : World) (E pre : List En) (W : World) : Prop where
  res : W.heap[b0]? = some (.cells #[.map none, .map none, .map none] 128 (0, 0))
  own : W.heap[b3]? = some (.cells (endCellsG e1 e2 (noteR E)) 178 (0, 0))
  cc : W.heap[c + 1 + 1 + 1]? = some (.cells #[.map (some c), .map (some (c + 1)), .map (some (c + 1 + 1))] 128 (0, 0))
  k1 : MapIs W e1 E.length (endsG .listen E)
  k2 : MapIs W e2 E.length (endsG .finWait E)
  cart : CartAt W c (c + 1) (c + 1 + 1) pre.length (cartG E pre)
  bel : Below w.heap.size w W

theorem OfG.from {b0 e1 e2 b3 c : Nat} {w : World} {E : List En} {B : Nat} (h0 : b0 < B) (h1 : e1 < B) (h2 : e2 < B) (h3 : b3 < B) (h4 : c + 1 + 1 + 1 < B) (hw : w.heap.size ≤ B) : OwnFrom B (OfG b0 e1 e2 b3 c w E) := fun s W W' row hs hg hr => by
  have k : ∀ b, b < B → b < W.heap.size → W'.heap[b]? = W.heap[b]? := fun b hb hl => hg.block b hl (fun e => by have := (hr b e.symm).1; omega)
  refine ⟨(k b0 h0 (Array.getElem?_eq_some_iff.1 hs.res).1).trans hs.res, (k b3 h3 (Array.getElem?_eq_some_iff.1 hs.own).1).trans hs.own, (k _ h4 (Array.getElem?_eq_some_iff.1 hs.cc).1).trans hs.cc, hs.k1.same (k e1 h1 hs.k1.lt), hs.k2.same (k e2 h2 hs.k2.lt), ⟨hs.cart.m1.same (k _ (by omega) hs.cart.m1.lt), hs.cart.m2.same (k _ (by omega) hs.cart.m2.lt), hs.cart.m3.same (k _ (by omega) hs.cart.m3.lt), hs.cart.le⟩, ?_⟩
  exact hs.bel.grown hg hs.bel.size (fun r e => Nat.le_trans hw (hr r e).1)

theorem OfG.below {b0 e1 e2 b3 c : Nat} {w : World} {E pre : List En} {W W' : World} (hs : OfG b0 e1 e2 b3 c w E pre W) (hb : Below W.heap.size W W') : OfG b0 e1 e2 b3 c w E pre W' :=
  ⟨(hb.block _ (Array.getElem?_eq_some_iff.1 hs.res).1).trans hs.res, (hb.block _ (Array.getElem?_eq_some_iff.1 hs.own).1).trans hs.own, (hb.block _ (Array.getElem?_eq_some_iff.1 hs.cc).1).trans hs.cc, hs.k1.below hb, hs.k2.below hb, hs.cart.below hb, hs.bel.trans (hb.mono hs.bel.size)⟩

/-- A round that puts nothing. -/
theorem OfG.skip {b0 e1 e2 b3 c : Nat} {w : World} {E pre : List En} {x : En} {W : World} (hs : OfG b0 e1 e2 b3 c w E pre W) (hg : x.seq ≤ (goneR E x).get x.org) : OfG b0 e1 e2 b3 c w E (pre ++ [x]) W := by
  refine ⟨hs.res, hs.own, hs.cc, hs.k1, hs.k2, ?_, hs.bel⟩
  rw [cartG_snoc, if_pos hg, List.length_append]
  exact ⟨hs.cart.m1.mono (by simp), hs.cart.m2.mono (by simp), hs.cart.m3.mono (by simp), hs.cart.le⟩

theorem OfG.put {b0 e1 e2 b3 c : Nat} {w : World} {E pre : List En} {x : En} {W W' : World} (hs : OfG b0 e1 e2 b3 c w E pre W) (h0 : b0 < c) (h1 : e1 < c) (h2 : e2 < c) (h3 : b3 < c) (hw : w.heap.size ≤ c) (hg : ¬ x.seq ≤ (goneR E x).get x.org)
    (hp : PutTo W c (c + 1) (c + 1 + 1) (pre.length + 1) (putC (cartG E pre) x.c) W') : OfG b0 e1 e2 b3 c w E (pre ++ [x]) W' ∧ Below c W W' ∧ ∀ B, c + 1 + 1 + 1 ≤ B → KeepsFrom B W W' := by
  obtain ⟨hc, w1, row, hb, hgr, hrow⟩ := hp
  have hs1 := hs.below hb
  have hcl : c < W.heap.size := hs.cart.m1.lt
  have k : ∀ b, b ≠ c → b ≠ c + 1 → b ≠ c + 1 + 1 → b < w1.heap.size → W'.heap[b]? = w1.heap[b]? := fun b n1 n2 n3 hl => hgr.block b hl (fun e => by rcases hrow b e.symm with h | h | h <;> contradiction)
  have hbc : Below c W W' := (hb.mono (by omega)).trans ((Below.refl _ w1).grown hgr (by have := hb.size; omega) (fun r e => by rcases hrow r e with h | h | h <;> omega))
  refine ⟨⟨(k b0 (by omega) (by omega) (by omega) (Array.getElem?_eq_some_iff.1 hs1.res).1).trans hs1.res, (k b3 (by omega) (by omega) (by omega) (Array.getElem?_eq_some_iff.1 hs1.own).1).trans hs1.own, (k _ (by omega) (by omega) (by omega) (Array.getElem?_eq_some_iff.1 hs1.cc).1).trans hs1.cc, hs1.k1.same (k e1 (by omega) (by omega) (by omega) hs1.k1.lt), hs1.k2.same (k e2 (by omega) (by omega) (by omega) hs1.k2.lt), ?_, hs.bel.trans (hbc.mono hw)⟩, hbc, fun B hB => ((keeps_below hb).from _).trans (KeepsFrom.of_grownBy hgr (fun j e => by rcases hrow j e with h | h | h <;> omega))⟩
  rw [cartG_snoc, if_neg hg, List.length_append]
  exact hc

set_option maxRecDepth 100000 in
set_option maxHeartbeats 4000000 in
theorem ofG (Bs : Nat) (ev : Value) (log : List En) (h8 : log.length ≤ 4294967296) (w : World) (hBs : w.cell? ⟨Bs, 0, none⟩ = some ev) (hev : ∀ b, ev.ownBlock = some b → b < w.heap.size) (hrow : w.ownsRow 0 122 10 ev log.length (enRow log)) :
    CallsIn Fence.wide 7 Tryz.prog 51 #[.func (.func 131) #[] #[.pointer (some ⟨Bs, 0, none⟩)]] w fun e W' =>
      ∃ c, e = .returned (.agg #[.map (some c), .map (some (c + 1)), .map (some (c + 1 + 1))]) ∧ w.heap.size ≤ c ∧ c + 1 + 1 < W'.heap.size ∧ CartAt W' c (c + 1) (c + 1 + 1) log.length (cartG log log) ∧ Below w.heap.size w W' := by
  have hro : Fence.wide.round = none := rfl
  have h1 : 1 ≤ 7 := by omega
  have hmm := @run_makeMap Tryz.prog
  have HE : Hid (∀ o, CallsIn Fence.wide 6 Tryz.prog 90 #[.func (.func 131) #[] #[.pointer (some ⟨Bs, 0, none⟩)]] (w.alloc o) fun e W' =>
      ∃ b1 b2, e = .returned (.agg #[.map (some b1), .map (some b2), .int .i64 ((noteR log).a : Int), .int .i64 ((noteR log).b : Int), .int .i64 ((noteR log).c : Int), .int .i64 ((noteR log).d : Int), .int .i64 ((noteR log).e : Int)]) ∧ (w.alloc o).heap.size ≤ b1 ∧ b1 < b2 ∧ b2 < W'.heap.size ∧ MapIs W' b1 log.length (endsG .listen log) ∧ MapIs W' b2 log.length (endsG .finWait log) ∧ Below (w.alloc o).heap.size (w.alloc o) W') := fun o =>
    endsOfG Bs ev log h8 (w.alloc o) (cell_below ((Below.refl _ w).alloc (Nat.le_refl _) o) hBs) (fun b hb => by have := hev b hb; simp; omega) ((Upd.of_below (S := []) ((Below.refl _ w).alloc (Nat.le_refl _) o)).owns hrow (by simp))
  have HBs : Hid (w.cell? ⟨Bs, 0, none⟩ = some ev) := hBs
  have Hrow : Hid (w.ownsRow 0 122 10 ev log.length (enRow log)) := hrow
  have Hev : Hid (∀ b, ev.ownBlock = some b → b < w.heap.size) := hev
  clear hBs hrow hev
  generalize hm0 : noteR log = m0 at *
  refine callsIn_of_wp_marks Tryz.func51 rfl trivial ?_ hro
  simp only [Tryz.ntmps51, List.size_toArray, List.length_cons, List.length_nil, Nat.reduceAdd, Nat.reduceSub, Array.replicate_succ, Array.replicate_zero, List.push_toArray, List.append_toArray, List.nil_append, List.cons_append]
  gi_wp2_with (refine ⟨trivial, ?_⟩; gi_at_call 90; refine (HE.out _).mono ?_; rintro e W1 ⟨e1, e2, rfl, q1, q2, q3, q4, q5, q6⟩)
  obtain ⟨W0, hW0⟩ : ∃ W0, ((((W1.alloc (.cells #[.map (some e1), .map (some e2), .int .i64 (m0.a : Int), .int .i64 (m0.b : Int), .int .i64 (m0.c : Int), .int .i64 (m0.d : Int), .int .i64 (m0.e : Int)] 178)).alloc (.map #[] 0)).alloc (.map #[] 0)).alloc (.map #[] 0)).alloc (.cells #[.map (some (W1.heap.size + 1)), .map (some (W1.heap.size + 1 + 1)), .map (some (W1.heap.size + 1 + 1 + 1))] 128) = W0 := ⟨_, rfl⟩
  have hsz : W0.heap.size = W1.heap.size + 5 := by rw [← hW0]; simp
  have hB10 : Below W1.heap.size W1 W0 := by rw [← hW0]; exact (((((Below.refl _ W1).alloc (Nat.le_refl _) _).alloc (by simp) _).alloc (by simp; omega) _).alloc (by simp; omega) _).alloc (by simp; omega) _
  have hB1 : Below w.heap.size w W1 := ((Below.refl _ w).alloc (Nat.le_refl _) _).trans (q6.mono (by simp))
  have hB0 : Below w.heap.size w W0 := hB1.trans (hB10.mono hB1.size)
  have hl0 : w.heap.size < e1 := by simp at q1; omega
  have hI0 : OfG w.heap.size e1 e2 W1.heap.size (W1.heap.size + 1) w log [] W0 := by
    refine ⟨?_, ?_, ?_, q4.below hB10, q5.below hB10, ⟨?_, ?_, ?_, fun s m h => by simp [cartG, CartS.empty] at h⟩, hB0⟩
    · exact (hB10.block _ (by omega)).trans ((q6.block _ (by simp)).trans (heap_alloc_new w _))
    · rw [← hW0, hm0]
      exact (Below.heap_alloc _ _ _ (by simp; omega)).trans ((Below.heap_alloc _ _ _ (by simp; omega)).trans ((Below.heap_alloc _ _ _ (by simp; omega)).trans ((Below.heap_alloc _ _ _ (by simp)).trans (heap_alloc_new W1 _))))
    · rw [← hW0]
      have := heap_alloc_new ((((W1.alloc (.cells #[.map (some e1), .map (some e2), .int .i64 (m0.a : Int), .int .i64 (m0.b : Int), .int .i64 (m0.c : Int), .int .i64 (m0.d : Int), .int .i64 (m0.e : Int)] 178)).alloc (.map #[] 0)).alloc (.map #[] 0)).alloc (.map #[] 0)) (.cells #[.map (some (W1.heap.size + 1)), .map (some (W1.heap.size + 1 + 1)), .map (some (W1.heap.size + 1 + 1 + 1))] 128)
      simp only [World.size_alloc] at this
      exact this
    · have := MapIs.made (W1.alloc (.cells #[.map (some e1), .map (some e2), .int .i64 (m0.a : Int), .int .i64 (m0.b : Int), .int .i64 (m0.c : Int), .int .i64 (m0.d : Int), .int .i64 (m0.e : Int)] 178))
      simp only [World.size_alloc] at this
      rw [← hW0]
      exact this.same ((Below.heap_alloc _ _ _ (by first | (simp; done) | (simp; omega))).trans ((Below.heap_alloc _ _ _ (by simp)).trans (Below.heap_alloc _ _ _ (by simp))))
    · have := MapIs.made ((W1.alloc (.cells #[.map (some e1), .map (some e2), .int .i64 (m0.a : Int), .int .i64 (m0.b : Int), .int .i64 (m0.c : Int), .int .i64 (m0.d : Int), .int .i64 (m0.e : Int)] 178)).alloc (.map #[] 0))
      simp only [World.size_alloc] at this
      rw [← hW0]
      exact this.same ((Below.heap_alloc _ _ _ (by simp)).trans (Below.heap_alloc _ _ _ (by simp)))
    · have := MapIs.made (((W1.alloc (.cells #[.map (some e1), .map (some e2), .int .i64 (m0.a : Int), .int .i64 (m0.b : Int), .int .i64 (m0.c : Int), .int .i64 (m0.d : Int), .int .i64 (m0.e : Int)] 178)).alloc (.map #[] 0)).alloc (.map #[] 0))
      simp only [World.size_alloc] at this
      rw [← hW0]
      exact this.same (Below.heap_alloc _ _ _ (by simp))
  have hBs0 : W0.cell? ⟨Bs, 0, none⟩ = some ev := cell_below hB0 HBs.out
  have hrow0 : W0.ownsRow 0 122 10 ev log.length (enRow log) := (Upd.of_below (S := []) hB0).owns Hrow.out (by simp)
  have hBl : Bs < w.heap.size := World.block_lt_of_cell? w _ HBs.out
  have hev0 : ∀ b, ev.ownBlock = some b → b < w.heap.size := Hev.out
  rw [hW0]
  have hw1 := hB1.size
  clear hW0 q1 q4 q5 q6 HE HBs Hrow Hev hB10 hB1
  generalize hb3 : W1.heap.size = b3 at *
  generalize hb0 : w.heap.size = b0 at *
  refine wpIn_rangeFunc_ownH hro h1 (gf := 131) (lb := #[.pointer (some ⟨Bs, 0, none⟩)]) rfl trivial (enters_of Tryz.func131 (by kernel_rfl) rfl)
    (valuesG (7 - 1) (by omega) Bs b0 ev log h8 W0 (by omega) (by omega) hBs0 hev0 hrow0) belowK_t (belowK_b (by omega)) (Below.refl _ _) (fun _ => rfl)
    (OfG b0 e1 e2 b3 (b3 + 1) w log) (fun _ _ _ => False) (OfG.from (by omega) (by omega) (by omega) (by omega) (by omega) (by omega)) (fun _ _ _ _ _ hs _ _ => hs) hI0
    (fun x a' W => ∃ Bx, W0.heap.size ≤ Bx ∧ W.heap[Bx]? = some (.cells #[.int .i64 (x.org : Int), .int .i64 (x.seq : Int), .int .i64 (x.ah.a : Int), .int .i64 (x.ah.b : Int), .int .i64 (x.ah.c : Int), .int .i64 (x.ah.d : Int), .int .i64 (x.ah.e : Int), .int .i64 (x.c.k.num : Int), .string x.c.word, .int .i64 (x.c.count : Int)] 122 (0, 0)) ∧ a' = { tmps := #[.func (.func 131) #[] #[.pointer (some ⟨Bs, 0, none⟩)], undef, .pointer (some ⟨b0, 0, none⟩), .pointer (some ⟨b3, 0, none⟩), .pointer (some ⟨b3 + 1 + 1 + 1 + 1, 0, none⟩), .pointer (some ⟨Bx, 0, none⟩), .func (.func 131) #[] #[.pointer (some ⟨Bs, 0, none⟩)], .agg #[.map (some e1), .map (some e2), .int .i64 (m0.a : Int), .int .i64 (m0.b : Int), .int .i64 (m0.c : Int), .int .i64 (m0.d : Int), .int .i64 (m0.e : Int)], .map (some (b3 + 1)), .map (some (b3 + 1 + 1)), .map (some (b3 + 1 + 1 + 1)), .agg #[.map (some (b3 + 1)), .map (some (b3 + 1 + 1)), .map (some (b3 + 1 + 1 + 1))], .func (.func 131) #[] #[.pointer (some ⟨Bs, 0, none⟩)], .agg #[.int .i64 (x.org : Int), .int .i64 (x.seq : Int), .int .i64 (x.ah.a : Int), .int .i64 (x.ah.b : Int), .int .i64 (x.ah.c : Int), .int .i64 (x.ah.d : Int), .int .i64 (x.ah.e : Int), .int .i64 (x.c.k.num : Int), .string x.c.word, .int .i64 (x.c.count : Int)], undef, undef, undef, undef, undef, undef, undef, undef, undef], defers := [] })
    ?hAx ?assign ?body ?done ?stop
  case hAx =>
    rintro x a' _ W W' row ⟨Bx, q1, q2, q3⟩ hg hr
    refine ⟨Bx, q1, (hg.block Bx (Array.getElem?_eq_some_iff.1 q2).1 fun e => ?_).trans q2, q3⟩
    obtain ⟨-, o, ho, hc⟩ := hr Bx e.symm
    rw [q2] at ho
    cases ho
    cases hc
  case assign =>
    intro l pre x W K hI hK
    simp only [En.val]
    gi_wp2
    have h3l := (Array.getElem?_eq_some_iff.1 hI.cc).1
    exact hK _ _ ((KeepsOthers.alloc _ _).from _) ((Below.refl _ W).alloc (by omega) _) (hI.below ((Below.refl _ W).alloc (Nat.le_refl _) _)) ⟨W.heap.size, by omega, heap_alloc_new W _, rfl⟩
  case body =>
    rintro l pre x a' W hl ⟨r, hr⟩ hI ⟨Bx, q1, q2, rfl⟩ hlt
    have hpl : pre.length < log.length := by omega
    have hd : 1 ≤ 7 - 1 - 1 := by omega
    have hmx : Tryz.prog.follows .mixedOrders = true := by kernel_rfl
    have c0 : W.cell? ⟨Bx, 0, none⟩ = some (.int .i64 (x.org : Int)) := by rw [cell_of_heap q2]; rfl
    have c1 : W.cell? ⟨Bx, 1, none⟩ = some (.int .i64 (x.seq : Int)) := by rw [cell_of_heap q2]; rfl
    have c2 : W.cell? ⟨Bx, 2, none⟩ = some (.int .i64 (x.ah.a : Int)) := by rw [cell_of_heap q2]; rfl
    have c3 : W.cell? ⟨Bx, 3, none⟩ = some (.int .i64 (x.ah.b : Int)) := by rw [cell_of_heap q2]; rfl
    have c4 : W.cell? ⟨Bx, 4, none⟩ = some (.int .i64 (x.ah.c : Int)) := by rw [cell_of_heap q2]; rfl
    have c5 : W.cell? ⟨Bx, 5, none⟩ = some (.int .i64 (x.ah.d : Int)) := by rw [cell_of_heap q2]; rfl
    have c6 : W.cell? ⟨Bx, 6, none⟩ = some (.int .i64 (x.ah.e : Int)) := by rw [cell_of_heap q2]; rfl
    have c7 : W.cell? ⟨Bx, 7, none⟩ = some (.int .i64 (x.c.k.num : Int)) := by rw [cell_of_heap q2]; rfl
    have c8 : W.cell? ⟨Bx, 8, none⟩ = some (.string x.c.word) := by rw [cell_of_heap q2]; rfl
    have c9 : W.cell? ⟨Bx, 9, none⟩ = some (.int .i64 (x.c.count : Int)) := by rw [cell_of_heap q2]; rfl
    have ho := hI.own
    rw [hm0] at ho
    have d0 : W.cell? ⟨b3, 0, none⟩ = some (.map (some e1)) := by rw [cell_of_heap ho]; rfl
    have d1 : W.cell? ⟨b3, 1, none⟩ = some (.map (some e2)) := by rw [cell_of_heap ho]; rfl
    have d2 : W.cell? ⟨b3, 2, none⟩ = some (.int .i64 (m0.a : Int)) := by rw [cell_of_heap ho]; rfl
    have d3 : W.cell? ⟨b3, 3, none⟩ = some (.int .i64 (m0.b : Int)) := by rw [cell_of_heap ho]; rfl
    have d4 : W.cell? ⟨b3, 4, none⟩ = some (.int .i64 (m0.c : Int)) := by rw [cell_of_heap ho]; rfl
    have d5 : W.cell? ⟨b3, 5, none⟩ = some (.int .i64 (m0.d : Int)) := by rw [cell_of_heap ho]; rfl
    have d6 : W.cell? ⟨b3, 6, none⟩ = some (.int .i64 (m0.e : Int)) := by rw [cell_of_heap ho]; rfl
    have HA : Hid (Calls Tryz.prog 91 #[.agg #[.map (some e1), .map (some e2), .int .i64 (m0.a : Int), .int .i64 (m0.b : Int), .int .i64 (m0.c : Int), .int .i64 (m0.d : Int), .int .i64 (m0.e : Int)], .agg #[.int .i64 (x.org : Int), .int .i64 (x.seq : Int), .int .i64 (x.ah.a : Int), .int .i64 (x.ah.b : Int), .int .i64 (x.ah.c : Int), .int .i64 (x.ah.d : Int), .int .i64 (x.ah.e : Int), .int .i64 (x.c.k.num : Int), .string x.c.word, .int .i64 (x.c.count : Int)]] W fun e w' => e = .returned (.bool (decide (x.seq ≤ (goneR log x).get x.org))) ∧ Below W.heap.size W w') := by
      have := has_endsG e1 e2 log.length log.length log x W hI.k1 hI.k2
      rw [hm0] at this
      exact this
    have HI : Hid (OfG b0 e1 e2 b3 (b3 + 1) w log pre W) := hI
    clear ho hI hrow0 hBs0 hmm hev0 hI0
    by_cases hg : x.seq ≤ (goneR log x).get x.org
    · rw [decide_eq_true hg] at HA
      have HN : Hid (OfG b0 e1 e2 b3 (b3 + 1) w log (pre ++ [x]) W) := HI.out.skip hg
      clear hg
      gi_wp2_with (refine ⟨trivial, ?_⟩; gi_at_call 91; refine (CallsIn.inRound l (callsIn_wide.2 HA.out)).mono ?_; rintro e w1 ⟨rfl, hbw⟩)
      have hbl := HI.out.bel.size
      exact ⟨((keeps_below hbw).from _), hbw.mono (by omega), HN.out.below hbw⟩
    · rw [decide_eq_false hg] at HA
      have HW1 : Hid (∀ w1, Below W.heap.size W w1 → w1.cell? ⟨b3 + 1 + 1 + 1 + 1, 0, none⟩ = some (.map (some (b3 + 1))) ∧ w1.cell? ⟨b3 + 1 + 1 + 1 + 1, 1, none⟩ = some (.map (some (b3 + 1 + 1))) ∧ w1.cell? ⟨b3 + 1 + 1 + 1 + 1, 2, none⟩ = some (.map (some (b3 + 1 + 1 + 1))) ∧ w1.cell? ⟨Bx, 7, none⟩ = some (.int .i64 (x.c.k.num : Int)) ∧ w1.cell? ⟨Bx, 8, none⟩ = some (.string x.c.word) ∧ w1.cell? ⟨Bx, 9, none⟩ = some (.int .i64 (x.c.count : Int))) := fun w1 hb => by
        have h := (HI.out.below hb).cc
        exact ⟨by rw [cell_of_heap h]; rfl, by rw [cell_of_heap h]; rfl, by rw [cell_of_heap h]; rfl, cell_below hb c7, cell_below hb c8, cell_below hb c9⟩
      have HP : Hid (∀ w1, Below W.heap.size W w1 → Calls Tryz.prog 92 #[.agg #[.map (some (b3 + 1)), .map (some (b3 + 1 + 1)), .map (some (b3 + 1 + 1 + 1))], .agg #[.int .i64 (x.c.k.num : Int), .string x.c.word, .int .i64 (x.c.count : Int)]] w1 fun e w' => e = .returned (.tuple #[]) ∧ PutTo w1 (b3 + 1) (b3 + 1 + 1) (b3 + 1 + 1 + 1) (pre.length + 1) (putC (cartG log pre) x.c) w') := fun w1 hb => put_any _ _ _ _ (by omega) (by omega) (by omega) (by omega) _ _ x.hc w1 (HI.out.below hb).cart
      gi_wp2_with (refine ⟨trivial, ?_⟩; first | (gi_at_call 91; refine (CallsIn.inRound l (callsIn_wide.2 HA.out)).mono ?_; rintro e w1 ⟨rfl, hbw⟩; obtain ⟨p0, p1, p2, p7, p8, p9⟩ := HW1.out w1 hbw) | (gi_at_call 92; refine (CallsIn.inRound l (callsIn_wide.2 (HP.out _ hbw))).mono ?_; rintro e w2 ⟨rfl, hpt⟩))
      have hbl := HI.out.bel.size
      obtain ⟨n1, n2, n3⟩ := (HI.out.below hbw).put (by omega) (by omega) (by omega) (by omega) (by omega) hg hpt
      exact ⟨((keeps_below hbw).from _).trans (n3 _ (by omega)), (hbw.mono (by omega)).trans (n2.mono (by omega)), n1⟩
  case done =>
    rintro D ys W hD hys hI hK
    rw [hys] at hI
    clear hys
    have hlen : log.length ≤ log.length := Nat.le_refl _
    have g0 : W.cell? ⟨b3 + 1 + 1 + 1 + 1, 0, none⟩ = some (.map (some (b3 + 1))) := by rw [cell_of_heap hI.cc]; rfl
    have g1 : W.cell? ⟨b3 + 1 + 1 + 1 + 1, 1, none⟩ = some (.map (some (b3 + 1 + 1))) := by rw [cell_of_heap hI.cc]; rfl
    have g2 : W.cell? ⟨b3 + 1 + 1 + 1 + 1, 2, none⟩ = some (.map (some (b3 + 1 + 1 + 1))) := by rw [cell_of_heap hI.cc]; rfl
    have r0 : W.cell? ⟨b0, 0, none⟩ = some (.map none) := by rw [cell_of_heap hI.res]; rfl
    have r1 : W.cell? ⟨b0, 1, none⟩ = some (.map none) := by rw [cell_of_heap hI.res]; rfl
    have r2 : W.cell? ⟨b0, 2, none⟩ = some (.map none) := by rw [cell_of_heap hI.res]; rfl
    have fz : ∀ o, W.frozen? ⟨b0, o, none⟩ = false := frozen_of_heap hI.res
    have HI : Hid (OfG b0 e1 e2 b3 (b3 + 1) w log log W) := hI
    clear hI hrow0 hBs0 hmm hev0 hI0
    gi_wp2
    obtain ⟨W7, hW7⟩ : ∃ W7, ((W.setCell ⟨b0, 0, none⟩ (.map (some (b3 + 1)))).setCell ⟨b0, 1, none⟩ (.map (some (b3 + 1 + 1)))).setCell ⟨b0, 2, none⟩ (.map (some (b3 + 1 + 1 + 1))) = W7 := ⟨_, rfl⟩
    have k7 : ∀ b, b ≠ b0 → W7.heap[b]? = W.heap[b]? := fun b hne => by
      rw [← hW7, Below.heap_setCell _ _ _ _ hne, Below.heap_setCell _ _ _ _ hne, Below.heap_setCell _ _ _ _ hne]
    have h7 : W7.heap[b0]? = some (.cells #[.map (some (b3 + 1)), .map (some (b3 + 1 + 1)), .map (some (b3 + 1 + 1 + 1))] 128 (0, 0)) := by
      rw [← hW7, heap_setCell_same (heap_setCell_same (heap_setCell_same HI.out.res _) _) _]
      simp
    have b7 : Below w.heap.size w W7 := by
      rw [← hW7]
      exact ((HI.out.bel.setCell (by show w.heap.size ≤ b0; omega) _).setCell (by show w.heap.size ≤ b0; omega) _).setCell (by show w.heap.size ≤ b0; omega) _
    have hD7 : W7.heap[D]? = some (.deferred (some [])) := (k7 D (by omega)).trans hK
    have hl7 : (b3 + 1 + 1 + 1) < W7.heap.size := (HI.out.cart.m3.same (k7 _ (by omega))).lt
    rw [hW7]
    clear hW7 r0 r1 r2 g0 g1 g2 fz
    refine ⟨by simp, .inl ⟨_, _, rfl, run_takeDeferred hD7, ?_⟩⟩
    have k8 : ∀ b, b ≠ D → (W7.putObj D (.deferred none)).heap[b]? = W7.heap[b]? := fun b hne => World.putObj_heap_other hne
    have b8 : Below w.heap.size w (W7.putObj D (.deferred none)) := ⟨b7.os, b7.tape, b7.output, by rw [World.putObj_size]; exact b7.size, fun b hb => (k8 b (by omega)).trans (b7.block b hb)⟩
    have h8' := (k8 b0 (by omega)).trans h7
    have l8 : b3 + 1 + 1 + 1 < (W7.putObj D (.deferred none)).heap.size := by rw [World.putObj_size]; exact hl7
    have hC := HI.out.cart
    have m8 : CartAt (W7.putObj D (.deferred none)) (b3 + 1) (b3 + 1 + 1) (b3 + 1 + 1 + 1) log.length (cartG log log) := ⟨(hC.m1.same ((k8 _ (by omega)).trans (k7 _ (by omega)))).mono hlen, (hC.m2.same ((k8 _ (by omega)).trans (k7 _ (by omega)))).mono hlen, (hC.m3.same ((k8 _ (by omega)).trans (k7 _ (by omega)))).mono hlen, hC.le⟩
    generalize W7.putObj D (.deferred none) = W8 at *
    have q0 : W8.cell? ⟨b0, 0, none⟩ = some (.map (some (b3 + 1))) := by rw [cell_of_heap h8']; rfl
    have q1 : W8.cell? ⟨b0, 1, none⟩ = some (.map (some (b3 + 1 + 1))) := by rw [cell_of_heap h8']; rfl
    have q2 : W8.cell? ⟨b0, 2, none⟩ = some (.map (some (b3 + 1 + 1 + 1))) := by rw [cell_of_heap h8']; rfl
    refine ⟨.agg #[.map (some (b3 + 1)), .map (some (b3 + 1 + 1)), .map (some (b3 + 1 + 1 + 1))], ?_, b3 + 1, rfl, by omega, l8, m8, b8⟩
    simp [results, Tryz.results51, go_sem, q0, q1, q2]
  case stop =>
    rintro D c pre W _ _ h _
    exact h.elim

end Go.Proofs.YtckmppkdpnhodaaGreatDoor
