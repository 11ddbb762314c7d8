/-
  Logs, purely: what may stand behind what. What waits in the box: a list of (to, which entry). Contracts of slices.Max, (*Box).Open. What waits to be sent, in memory. Contract of (*Box).Open. The lock about a call; contract of (*Replica).Known. A map of the program's, keyed by strings, as a function from strings. The iterator over a replica's log: slices.Values at its entries; (*Log).All.
-/
import Derived.Test.YtckmppkdpnhodaaGreatDoorT03
import Derived.Defers
import Derived.Maps.OwnSet
import Derived.Maps.OwnIn
import Derived.StringKeys
import Derived.Sort.KeysCollected
import Derived.RangeFuncNested
import Derived.RangeFuncBound
import Derived.RangeFuncCalls
import Derived.RangeFuncLeaves
import Derived.Shelf.Abstract
import Derived.Shelf.RegionOpen
import Derived.WalkKit
import Derived.OwnWalkIn
import Derived.TacticsInMore
import Derived.LoopNIn
import Derived.LoopIn
namespace Go.Proofs.YtckmppkdpnhodaaGreatDoor
set_option linter.unusedVariables false
set_option linter.unusedSimpArgs false
open Go.RowKit Go.Proofs

/-- How many commands of a replica are in a log. -/
def cntL (log : List En) (o : Nat) : Nat := log.countP fun x => decide (x.org = o)

theorem cntL_append (l m : List En) (o : Nat) : cntL (l ++ m) o = cntL l o + cntL m o := by simp [cntL]
theorem cntL_cons (x : En) (m : List En) (o : Nat) : cntL (x :: m) o = (if x.org = o then 1 else 0) + cntL m o := by
  unfold cntL
  rw [List.countP_cons]
  by_cases h : x.org = o <;> simp [h, Nat.add_comm]
theorem cntL_snoc (l : List En) (x : En) (o : Nat) : cntL (l ++ [x]) o = cntL l o + if x.org = o then 1 else 0 := by
  rw [cntL_append, cntL_cons]; simp [cntL]
theorem cntL_le (l : List En) (o : Nat) : cntL l o ≤ l.length := List.countP_le_length

theorem cntL_big (l : List En) {o : Nat} (h : 5 ≤ o) : cntL l o = 0 := by
  unfold cntL
  rw [List.countP_eq_zero]
  intro x _ e
  have := x.ho
  simp at e
  omega

def reachOf (log : List En) : Rc := ⟨cntL log 0, cntL log 1, cntL log 2, cntL log 3, cntL log 4⟩

theorem reachOf_get (log : List En) (o : Nat) : (reachOf log).get o = cntL log o := by
  unfold Rc.get reachOf
  repeat (split; · subst_vars; rfl)
  rw [cntL_big]
  omega

theorem reachOf_snoc (log : List En) (x : En) (h : x.seq = cntL log x.org + 1) : reachOf (log ++ [x]) = (reachOf log).set x.org x.seq := by
  refine Rc.ext' fun j _ => ?_
  rw [reachOf_get, Rc.set_get _ x.ho, reachOf_get, cntL_snoc]
  by_cases e : j = x.org
  · subst e; simp [h]
  · rw [if_neg e, if_neg (Ne.symm e)]; rfl

/-- May the command stand behind these in the log of the replica me? -/
def NextOk (me : Nat) (pre : List En) (x : En) : Prop := x.seq = cntL pre x.org + 1 ∧ (∀ o, x.ah.get o ≤ cntL pre o) ∧ (x.org = me → x.ah = reachOf pre)

def LogFrom (me : Nat) (pre : List En) : List En → Prop
  | [] => True
  | x :: l => NextOk me pre x ∧ LogFrom me (pre ++ [x]) l

theorem logFrom_append (me : Nat) : ∀ (l m pre : List En), LogFrom me pre (l ++ m) ↔ LogFrom me pre l ∧ LogFrom me (pre ++ l) m
  | [], m, pre => by simp [LogFrom]
  | x :: l, m, pre => by
    rw [List.cons_append, LogFrom, LogFrom, logFrom_append me l m, List.append_assoc, and_assoc]
    rfl

theorem LogFrom.snoc {me : Nat} {log : List En} (h : LogFrom me [] log) {x : En} (hx : NextOk me log x) : LogFrom me [] (log ++ [x]) := (logFrom_append me log [x] []).2 ⟨h, by simpa [LogFrom] using hx⟩

def ownL (o : Nat) (log : List En) : List En := log.filter fun x => decide (x.org = o)

theorem ownL_length (o : Nat) (log : List En) : (ownL o log).length = cntL log o := by simp [ownL, cntL, List.countP_eq_length_filter]

theorem ownL_snoc (o : Nat) (log : List En) (x : En) : ownL o (log ++ [x]) = ownL o log ++ if x.org = o then [x] else [] := by
  simp [ownL, List.filter_cons]

theorem LogFrom.seq {me : Nat} {o : Nat} : ∀ {l pre : List En}, LogFrom me pre l → ∀ {k : Nat} {x : En}, (ownL o l)[k]? = some x → x.seq = cntL pre o + k + 1
  | [], _, _, k, x, hx => by simp [ownL] at hx
  | y :: l, pre, h, k, x, hx => by
    have ih := @LogFrom.seq me o l (pre ++ [y]) h.2
    rw [ownL, List.filter_cons] at hx
    by_cases e : y.org = o
    · rw [if_pos (by simpa using e)] at hx
      cases k with
      | zero =>
        simp at hx
        subst hx
        rw [← e]
        exact h.1.1
      | succ k =>
        have := ih (k := k) (x := x) (by simpa [ownL] using hx)
        rw [cntL_snoc, if_pos e] at this
        omega
    · rw [if_neg (by simpa using e)] at hx
      have := ih (k := k) (x := x) hx
      rw [cntL_snoc, if_neg e] at this
      omega

theorem mem_ownL {o : Nat} {log : List En} {x : En} : x ∈ ownL o log ↔ x ∈ log ∧ x.org = o := by simp [ownL]

theorem LogFrom.place {me : Nat} {log : List En} (h : LogFrom me [] log) {x : En} (hx : x ∈ log) : 1 ≤ x.seq ∧ x.seq ≤ cntL log x.org ∧ (ownL x.org log)[x.seq - 1]? = some x := by
  obtain ⟨k, hk⟩ := List.getElem?_of_mem (mem_ownL.2 ⟨hx, rfl⟩)
  have hs := h.seq hk
  have hk' : k < (ownL x.org log).length := by
    rcases Nat.lt_or_ge k (ownL x.org log).length with h | h
    · exact h
    · rw [List.getElem?_eq_none h] at hk; simp at hk
  rw [ownL_length] at hk'
  have h0 : cntL ([] : List En) x.org = 0 := rfl
  have e : x.seq - 1 = k := by omega
  exact ⟨by omega, by omega, by rw [e]; exact hk⟩

theorem LogFrom.the {me : Nat} {log : List En} (h : LogFrom me [] log) {o s : Nat} (h1 : 1 ≤ s) (h2 : s ≤ cntL log o) : ∃ x ∈ log, x.org = o ∧ x.seq = s := by
  have hl : s - 1 < (ownL o log).length := by rw [ownL_length]; omega
  have hm := List.getElem_mem hl
  have hs := h.seq (List.getElem?_eq_getElem hl)
  have h0 : cntL ([] : List En) o = 0 := rfl
  exact ⟨_, (mem_ownL.1 hm).1, (mem_ownL.1 hm).2, by omega⟩

theorem LogFrom.split {me : Nat} {pre : List En} {x : En} {post : List En} (h : LogFrom me [] (pre ++ x :: post)) : NextOk me pre x ∧ LogFrom me [] pre := by
  have := (logFrom_append me pre (x :: post) []).1 h
  exact ⟨by simpa using this.2.1, this.1⟩

/-- Learn. -/
def learnL (log : List En) (x : En) : List En := if x.seq = cntL log x.org + 1 ∧ (reachOf log).covers x.ah = true then log ++ [x] else log

def learnAll (log : List En) (es : List En) : List En := es.foldl learnL log

/-- A log that learns of another's commands is well again, and has nothing that the other one has not. -/
theorem learnL_ok {me : Nat} {log : List En} (h : LogFrom me [] log) {x : En} (hx : x.org ≠ me) : LogFrom me [] (learnL log x) := by
  unfold learnL
  split
  · rename_i hc
    exact h.snoc ⟨hc.1, fun o => by rw [← reachOf_get]; exact (Rc.covers_iff _ _).1 hc.2 o, fun e => absurd e hx⟩
  · exact h

theorem learnAll_ok {me : Nat} : ∀ {es log : List En}, LogFrom me [] log → (∀ x ∈ es, x.org ≠ me) → LogFrom me [] (learnAll log es)
  | [], _, h, _ => h
  | y :: es, log, h, hx => learnAll_ok (es := es) (learnL_ok h (hx y (by simp))) fun x hm => hx x (by simp [hm])

theorem learnL_mem {log : List En} {x y : En} (h : y ∈ learnL log x) : y ∈ log ∨ y = x := by
  unfold learnL at h
  split at h
  · simpa using h
  · exact .inl h

theorem learnAll_mem : ∀ {es log : List En} {y : En}, y ∈ learnAll log es → y ∈ log ∨ y ∈ es
  | [], _, _, h => .inl h
  | x :: es, log, y, h => by
    rcases learnAll_mem (es := es) (log := learnL log x) h with h | h
    · rcases learnL_mem h with h | h
      · exact .inl h
      · exact .inr (by simp [h])
    · exact .inr (by simp [h])

theorem learnAll_prefix : ∀ (es log : List En), ∃ l, learnAll log es = log ++ l
  | [], log => ⟨[], by simp [learnAll]⟩
  | x :: es, log => by
    obtain ⟨l, hl⟩ := learnAll_prefix es (learnL log x)
    have : learnAll log (x :: es) = learnAll (learnL log x) es := rfl
    rw [this, hl]
    unfold learnL
    split
    · exact ⟨x :: l, by simp⟩
    · exact ⟨l, rfl⟩

theorem learnAll_own {me : Nat} {es log : List En} (hx : ∀ x ∈ es, x.org ≠ me) : ownL me (learnAll log es) = ownL me log := by
  induction es generalizing log with
  | nil => rfl
  | cons x es ih =>
    have : learnAll log (x :: es) = learnAll (learnL log x) es := rfl
    rw [this, ih fun y hy => hx y (by simp [hy])]
    unfold learnL
    split
    · rw [ownL_snoc, if_neg (hx x (by simp)), List.append_nil]
    · rfl

end Go.Proofs.YtckmppkdpnhodaaGreatDoor

namespace Go.Proofs.YtckmppkdpnhodaaGreatDoor
set_option linter.unusedVariables false
set_option linter.unusedSimpArgs false
open Go.RowKit Go.Proofs

attribute [local go_sem ↓] Go.wp_at_zero Go.wp_at_succ

def mx (n0 n1 n2 n3 n4 : Nat) : Nat → Nat
  | 0 => 0
  | 1 => n0
  | 2 => max n0 n1
  | 3 => max (max n0 n1) n2
  | 4 => max (max (max n0 n1) n2) n3
  | _ => max (max (max (max n0 n1) n2) n3) n4

set_option maxRecDepth 100000 in
set_option maxHeartbeats 4000000 in
theorem max_any (b n0 n1 n2 n3 n4 : Nat) (w : World) (h : w.heap[b]? = some (.cells #[.int .i64 (n0 : Int), .int .i64 (n1 : Int), .int .i64 (n2 : Int), .int .i64 (n3 : Int), .int .i64 (n4 : Int)] 102 (0, 0))) :
    Calls Tryz.prog 87 #[.slice (some ⟨b, 0, none⟩) 5 5] w fun e w' => e = .returned (.int .i64 ((mx n0 n1 n2 n3 n4 5 : Nat) : Int)) ∧ w' = w := by
  have c0 : w.cell? ⟨b, 0, none⟩ = some (.int .i64 (n0 : Int)) := by rw [cell_of_heap h]; rfl
  have c1 : w.cell? ⟨b, 1, none⟩ = some (.int .i64 (n1 : Int)) := by rw [cell_of_heap h]; rfl
  have c2 : w.cell? ⟨b, 2, none⟩ = some (.int .i64 (n2 : Int)) := by rw [cell_of_heap h]; rfl
  have c3 : w.cell? ⟨b, 3, none⟩ = some (.int .i64 (n3 : Int)) := by rw [cell_of_heap h]; rfl
  have c4 : w.cell? ⟨b, 4, none⟩ = some (.int .i64 (n4 : Int)) := by rw [cell_of_heap h]; rfl
  clear h
  go_enter Tryz.func87, Tryz.ntmps87
  go_wp2
  go_loopw [3, 4] (fun m i wr => ∃ j : Nat, 1 ≤ j ∧ j ≤ 5 ∧ i = .int .i64 j ∧ m = .int .i64 ((mx n0 n1 n2 n3 n4 j : Nat) : Int) ∧ wr = w) (fun _ i _ => 5 - (intOf i).toNat)
  case atStart => exact ⟨1, by omega, by omega, rfl, rfl, rfl⟩
  case round =>
    obtain ⟨j, hj1, hj, rfl, rfl, rfl⟩ := hrel
    rcases (show j = 1 ∨ j = 2 ∨ j = 3 ∨ j = 4 ∨ j = 5 by omega) with rfl | rfl | rfl | rfl | rfl
    · go_wp2
      go_roundw
      case rel => exact ⟨2, by omega, by omega, by go_num, by simp only [mx]; congr 1; omega, trivial⟩
      case measure => simp [intOf]
    · go_wp2
      go_roundw
      case rel => exact ⟨3, by omega, by omega, by go_num, by simp only [mx]; congr 1; omega, trivial⟩
      case measure => simp [intOf]
    · go_wp2
      go_roundw
      case rel => exact ⟨4, by omega, by omega, by go_num, by simp only [mx]; congr 1; omega, trivial⟩
      case measure => simp [intOf]
    · go_wp2
      go_roundw
      case rel => exact ⟨5, by omega, by omega, by go_num, by simp only [mx]; congr 1; omega, trivial⟩
      case measure => simp [intOf]
    · go_wp2
      go_ret
      exact ⟨rfl, rfl⟩

theorem size_setCell' (w : World) (a : Addr) (v : Value) : (w.setCell a v).heap.size = w.heap.size := by simp [World.setCell]

theorem take_snocP {α : Type} (l : List α) (k : Nat) (h : k < l.length) : l.take (k + 1) = l.take k ++ [l[k]] := by rw [List.take_add_one, List.getElem?_eq_getElem h]; rfl

end Go.Proofs.YtckmppkdpnhodaaGreatDoor

namespace Go.Proofs.YtckmppkdpnhodaaGreatDoor
set_option linter.unusedVariables false
set_option linter.unusedSimpArgs false
open Go.RowKit Go.Proofs

attribute [local go_sem ↓] Go.wp_at_zero Go.wp_at_succ

/-- An entry that waits to be sent: when it is due, to whom it goes. -/
structure It where
  due : Nat
  to : Nat
  en : En
  hd : due < 1152921504606846976
  ht : to < 5

def It.cells (x : It) : List Value := [.int .i64 (x.due : Int), .int .i64 (x.to : Int)] ++ x.en.cells
theorem It.cells_length (x : It) : x.cells.length = 12 := rfl
def itRow (its : List It) : List Value := its.flatMap It.cells

theorem itRow_length (its : List It) : (itRow its).length = its.length * 12 := by
  unfold itRow
  induction its with
  | nil => rfl
  | cons x l ih => rw [List.flatMap_cons, List.length_append, ih, It.cells_length, List.length_cons]; omega

theorem itRow_get (its : List It) {i o : Nat} (hi : i < its.length) (ho : o < 12) : (itRow its)[i * 12 + o]? = its[i].cells[o]? := flat_at It.cells 12 It.cells_length its i o hi ho

theorem itRow_snoc (its : List It) (x : It) : itRow (its ++ [x]) = itRow its ++ x.cells := by simp [itRow]

theorem it_cells {w : World} {B : Nat} {wv : Value} {its : List It} (h : w.ownsRow B 171 12 wv its.length (itRow its)) {i : Nat} (hi : i < its.length) :
    ∃ g cap, wv = .slice (some ⟨g, 0, none⟩) its.length cap ∧ g < w.heap.size ∧ ∀ o v, o < 12 → its[i].cells[o]? = some v → w.cell? ⟨g, i * 12 + o, none⟩ = some v := by
  obtain ⟨g, cap, hv, -, hg⟩ := h.form (by omega)
  refine ⟨g, cap, hv, hg, fun o v ho he => ?_⟩
  have := h.cells (g := g) (by rw [hv]; rfl) (i * 12 + o) v (by rw [itRow_get its hi ho]; exact he)
  rwa [Addr.add_mid, Nat.zero_add] at this

/-- How many items go to t. -/
def cntI (its : List It) (t : Nat) : Nat := its.countP fun p => decide (p.to = t)

theorem cntI_snoc (its : List It) (p : It) (t : Nat) : cntI (its ++ [p]) t = if p.to = t then cntI its t + 1 else cntI its t := by
  unfold cntI
  rw [List.countP_append]
  by_cases h : p.to = t <;> simp [h]

theorem cntI_le (its : List It) (t : Nat) : cntI its t ≤ its.length := List.countP_le_length

theorem cntI_perm {a b : List It} (h : a.Perm b) (t : Nat) : cntI a t = cntI b t := h.countP_eq _

/-- To the one to which most go: how many. -/
def openI (its : List It) : Nat := max (max (max (max (cntI its 0) (cntI its 1)) (cntI its 2)) (cntI its 3)) (cntI its 4)

theorem openI_perm {a b : List It} (h : a.Perm b) : openI a = openI b := by simp only [openI, cntI_perm h]

set_option maxRecDepth 100000 in
set_option maxHeartbeats 4000000 in
theorem openG (rb : Nat) (its : List It) (hl : its.length ≤ 1000) (wv : Value) (w : World) (h11 : w.cell? ⟨rb, 11, none⟩ = some wv) (hrow : w.ownsRow 0 171 12 wv its.length (itRow its)) :
    Calls Tryz.prog 48 #[.pointer (some ⟨rb, 10, none⟩)] w fun e w' => e = .returned (.int .i64 ((openI its : Nat) : Int)) ∧ Below w.heap.size w w' := by
  obtain ⟨pe, cape, hev⟩ : ∃ p c, wv = .slice p its.length c := by
    rcases hrow.2 with ⟨h1, h0⟩ | ⟨g, cap', _, h1, _⟩
    · rw [h0]; exact ⟨_, _, h1⟩
    · exact ⟨_, _, h1⟩
  have HR : Hid (w.ownsRow 0 171 12 wv its.length (itRow its)) := hrow
  have HE : Hid (wv = .slice pe its.length cape) := hev
  have HM : Hid (∀ (W : World) n0 n1 n2 n3 n4, W.heap[w.heap.size]? = some (.cells #[.int .i64 ((n0 : Nat) : Int), .int .i64 ((n1 : Nat) : Int), .int .i64 ((n2 : Nat) : Int), .int .i64 ((n3 : Nat) : Int), .int .i64 ((n4 : Nat) : Int)] 102 (0, 0)) → Calls Tryz.prog 87 #[.slice (some ⟨w.heap.size, 0, none⟩) 5 5] W fun e w' => e = .returned (.int .i64 ((mx n0 n1 n2 n3 n4 5 : Nat) : Int)) ∧ w' = W) := fun W n0 n1 n2 n3 n4 h => max_any _ _ _ _ _ _ W h
  rw [hev] at h11
  have hrl : rb < w.heap.size := World.block_lt_of_cell? w _ h11
  clear hrow hev
  go_enter Tryz.func48, Tryz.ntmps48
  go_wp2
  go_loopw [11] (fun i wr => ∃ j : Nat, j ≤ its.length ∧ i = .int .i64 j ∧ Hid (wr.heap[w.heap.size]? = some (.cells #[.int .i64 ((cntI (its.take j) 0 : Nat) : Int), .int .i64 ((cntI (its.take j) 1 : Nat) : Int), .int .i64 ((cntI (its.take j) 2 : Nat) : Int), .int .i64 ((cntI (its.take j) 3 : Nat) : Int), .int .i64 ((cntI (its.take j) 4 : Nat) : Int)] 102 (0, 0))) ∧ Hid (Below w.heap.size w wr)) (fun i _ => its.length - (intOf i).toNat)
  case atStart => exact ⟨0, Nat.zero_le _, rfl, (by show _ = _; rw [heap_alloc_new]; simp [cntI]), (Below.refl _ w).alloc (Nat.le_refl _) _⟩
  case round =>
    obtain ⟨j, hj, rfl, hC, hB⟩ := hrel
    by_cases hlt : j < its.length
    · have hrw : wr.ownsRow 0 171 12 wv its.length (itRow its) := (Upd.of_below (S := []) hB.out).owns HR.out (by simp)
      obtain ⟨g, cap, hge, hgl, hcl⟩ := it_cells hrw hlt
      rw [HE.out] at hge
      obtain ⟨rfl, -, rfl⟩ : pe = some ⟨g, 0, none⟩ ∧ True ∧ cape = cap := by simpa using hge
      clear hge hrw
      have ht5 := its[j].ht
      have hsn := take_snocP its j hlt
      have HS : Hid (∀ t, cntI (its.take (j + 1)) t = if its[j].to = t then cntI (its.take j) t + 1 else cntI (its.take j) t) := fun t => by rw [hsn, cntI_snoc]
      have HL : Hid (∀ t, cntI (its.take j) t ≤ 1000) := fun t => Nat.le_trans (cntI_le (its.take j) t) (by rw [List.length_take]; omega)
      have HBL : Hid (w.heap.size < wr.heap.size) := (Array.getElem?_eq_some_iff.1 hC.out).1
      clear hsn
      generalize its[j] = x at *
      obtain ⟨due, t, en, hdx, htx⟩ := x
      simp only at ht5 HS
      have HS5 : Hid (cntI (its.take (j + 1)) 0 = (if t = 0 then cntI (its.take j) 0 + 1 else cntI (its.take j) 0) ∧ cntI (its.take (j + 1)) 1 = (if t = 1 then cntI (its.take j) 1 + 1 else cntI (its.take j) 1) ∧ cntI (its.take (j + 1)) 2 = (if t = 2 then cntI (its.take j) 2 + 1 else cntI (its.take j) 2) ∧ cntI (its.take (j + 1)) 3 = (if t = 3 then cntI (its.take j) 3 + 1 else cntI (its.take j) 3) ∧ cntI (its.take (j + 1)) 4 = (if t = 4 then cntI (its.take j) 4 + 1 else cntI (its.take j) 4)) := ⟨HS.out 0, HS.out 1, HS.out 2, HS.out 3, HS.out 4⟩
      clear HS
      obtain ⟨v2, v3, v4, v5, v6, v7, v8, v9, v11, s10, e0, e1, e2, e3, e4, e5, e6, e7, e8, e9, e10, e11⟩ : ∃ (v2 v3 v4 v5 v6 v7 v8 v9 v11 : Int) (s10 : ByteArray), wr.cell? ⟨g, j * 12, none⟩ = some (.int .i64 (due : Int)) ∧ wr.cell? ⟨g, j * 12 + 1, none⟩ = some (.int .i64 (t : Int)) ∧ wr.cell? ⟨g, j * 12 + 2, none⟩ = some (.int .i64 v2) ∧ wr.cell? ⟨g, j * 12 + 3, none⟩ = some (.int .i64 v3) ∧ wr.cell? ⟨g, j * 12 + 4, none⟩ = some (.int .i64 v4) ∧ wr.cell? ⟨g, j * 12 + 5, none⟩ = some (.int .i64 v5) ∧ wr.cell? ⟨g, j * 12 + 6, none⟩ = some (.int .i64 v6) ∧ wr.cell? ⟨g, j * 12 + 7, none⟩ = some (.int .i64 v7) ∧ wr.cell? ⟨g, j * 12 + 8, none⟩ = some (.int .i64 v8) ∧ wr.cell? ⟨g, j * 12 + 9, none⟩ = some (.int .i64 v9) ∧ wr.cell? ⟨g, j * 12 + 10, none⟩ = some (.string s10) ∧ wr.cell? ⟨g, j * 12 + 11, none⟩ = some (.int .i64 v11) :=
        ⟨_, _, _, _, _, _, _, _, _, _, hcl 0 _ (by omega) rfl, hcl 1 _ (by omega) rfl, hcl 2 _ (by omega) rfl, hcl 3 _ (by omega) rfl, hcl 4 _ (by omega) rfl, hcl 5 _ (by omega) rfl, hcl 6 _ (by omega) rfl, hcl 7 _ (by omega) rfl, hcl 8 _ (by omega) rfl, hcl 9 _ (by omega) rfl, hcl 10 _ (by omega) rfl, hcl 11 _ (by omega) rfl⟩
      clear hcl
      have d0 : wr.cell? ⟨w.heap.size, 0, none⟩ = some (.int .i64 ((cntI (its.take j) 0 : Nat) : Int)) := by rw [cell_of_heap hC.out]; rfl
      have d1 : wr.cell? ⟨w.heap.size, 1, none⟩ = some (.int .i64 ((cntI (its.take j) 1 : Nat) : Int)) := by rw [cell_of_heap hC.out]; rfl
      have d2 : wr.cell? ⟨w.heap.size, 2, none⟩ = some (.int .i64 ((cntI (its.take j) 2 : Nat) : Int)) := by rw [cell_of_heap hC.out]; rfl
      have d3 : wr.cell? ⟨w.heap.size, 3, none⟩ = some (.int .i64 ((cntI (its.take j) 3 : Nat) : Int)) := by rw [cell_of_heap hC.out]; rfl
      have d4 : wr.cell? ⟨w.heap.size, 4, none⟩ = some (.int .i64 ((cntI (its.take j) 4 : Nat) : Int)) := by rw [cell_of_heap hC.out]; rfl
      have fz : ∀ o, wr.frozen? ⟨w.heap.size, o, none⟩ = false := frozen_of_heap hC.out
      have l0 := HL.out 0
      have l1 := HL.out 1
      have l2 := HL.out 2
      have l3 := HL.out 3
      have l4 := HL.out 4
      have hbl := HBL.out
      generalize cntI (its.take j) 0 = k0 at *
      generalize cntI (its.take j) 1 = k1 at *
      generalize cntI (its.take j) 2 = k2 at *
      generalize cntI (its.take j) 3 = k3 at *
      generalize cntI (its.take j) 4 = k4 at *
      rcases (show t = 0 ∨ t = 1 ∨ t = 2 ∨ t = 3 ∨ t = 4 by omega) with rfl | rfl | rfl | rfl | rfl
      · go_wp2
        go_roundw
        case rel =>
          refine ⟨j + 1, by omega, by go_num, ?_, (hB.out.setCell (Nat.le_refl _) _).alloc (by rw [size_setCell']; omega) _⟩
          show _ = _
          obtain ⟨q0, q1, q2, q3, q4⟩ := HS5.out
          rw [Below.heap_alloc _ _ _ (by rw [size_setCell']; omega), heap_setCell_same hC.out, q0, q1, q2, q3, q4]
          simp
        case measure => simp [intOf]; omega
      · go_wp2
        go_roundw
        case rel =>
          refine ⟨j + 1, by omega, by go_num, ?_, (hB.out.setCell (Nat.le_refl _) _).alloc (by rw [size_setCell']; omega) _⟩
          show _ = _
          obtain ⟨q0, q1, q2, q3, q4⟩ := HS5.out
          rw [Below.heap_alloc _ _ _ (by rw [size_setCell']; omega), heap_setCell_same hC.out, q0, q1, q2, q3, q4]
          simp
        case measure => simp [intOf]; omega
      · go_wp2
        go_roundw
        case rel =>
          refine ⟨j + 1, by omega, by go_num, ?_, (hB.out.setCell (Nat.le_refl _) _).alloc (by rw [size_setCell']; omega) _⟩
          show _ = _
          obtain ⟨q0, q1, q2, q3, q4⟩ := HS5.out
          rw [Below.heap_alloc _ _ _ (by rw [size_setCell']; omega), heap_setCell_same hC.out, q0, q1, q2, q3, q4]
          simp
        case measure => simp [intOf]; omega
      · go_wp2
        go_roundw
        case rel =>
          refine ⟨j + 1, by omega, by go_num, ?_, (hB.out.setCell (Nat.le_refl _) _).alloc (by rw [size_setCell']; omega) _⟩
          show _ = _
          obtain ⟨q0, q1, q2, q3, q4⟩ := HS5.out
          rw [Below.heap_alloc _ _ _ (by rw [size_setCell']; omega), heap_setCell_same hC.out, q0, q1, q2, q3, q4]
          simp
        case measure => simp [intOf]; omega
      · go_wp2
        go_roundw
        case rel =>
          refine ⟨j + 1, by omega, by go_num, ?_, (hB.out.setCell (Nat.le_refl _) _).alloc (by rw [size_setCell']; omega) _⟩
          show _ = _
          obtain ⟨q0, q1, q2, q3, q4⟩ := HS5.out
          rw [Below.heap_alloc _ _ _ (by rw [size_setCell']; omega), heap_setCell_same hC.out, q0, q1, q2, q3, q4]
          simp
        case measure => simp [intOf]; omega
    · obtain rfl : j = its.length := by omega
      rw [List.take_length] at hC
      go_wp2_with (go_at_call 87; refine (HM.out _ _ _ _ _ _ hC.out).mono ?_; rintro e w1 ⟨rfl, rfl⟩)
      go_ret
      exact ⟨rfl, hB.out⟩

end Go.Proofs.YtckmppkdpnhodaaGreatDoor

namespace Go.Proofs.YtckmppkdpnhodaaGreatDoor
set_option linter.unusedVariables false
set_option linter.unusedSimpArgs false
open Go.RowKit Go.Proofs Go.MuLone

theorem size_setCell (w : World) (a : Addr) (v : Value) : (w.setCell a v).heap.size = w.heap.size := by simp [World.setCell]

/-- Locked, then something that makes memory alone, then unlocked: nothing old has turned. -/
theorem relock {w w2 : World} {rb : Nat} {C : Array Value} {T : TypeId} (h : w.heap[rb]? = some (.cells C T (0, 0))) (h0 : C[0]? = some (.int .i32 0)) (hb : Below w.heap.size (w.setCell ⟨rb, 0, none⟩ (.int .i32 1)) w2) :
    Below w.heap.size w (w2.setCell ⟨rb, 0, none⟩ (.int .i32 0)) := by
  have hl := (Array.getElem?_eq_some_iff.1 h).1
  have hs : w.heap.size ≤ w2.heap.size := by have := hb.size; rwa [size_setCell] at this
  refine ⟨hb.os, hb.tape, hb.output, by rw [size_setCell]; exact hs, fun b hbl => ?_⟩
  by_cases hbr : b = rb
  · subst hbr
    have h1 : w2.heap[b]? = some (.cells (C.setIfInBounds 0 (.int .i32 1)) T (0, 0)) := (hb.block b hbl).trans (heap_setCell_same h _)
    rw [heap_setCell_same h1, h]
    congr 2
    apply Array.ext_getElem?
    intro i
    have hc := (Array.getElem?_eq_some_iff.1 h0).1
    by_cases hi : i = 0
    · subst hi
      rw [Array.getElem?_setIfInBounds_self_of_lt (by simpa using hc), h0]
    · rw [Array.getElem?_setIfInBounds_ne (fun e => hi e.symm), Array.getElem?_setIfInBounds_ne (fun e => hi e.symm)]
  · rw [Below.heap_setCell _ _ _ _ hbr, hb.block b hbl, Below.heap_setCell _ _ _ _ hbr]

theorem VerbsAt.lock {w : World} (h : VerbsAt w) {rb : Nat} (hr : rb ≠ 0) (v : Value) (o : Nat) : VerbsAt (w.setCell ⟨rb, o, none⟩ v) := fun k => by
  have := h k
  rw [← this]
  exact World.cell?_of_block (a := ⟨0, k.num, none⟩) (Below.heap_setCell _ _ _ _ (fun e => hr e.symm))

end Go.Proofs.YtckmppkdpnhodaaGreatDoor

namespace Go.Proofs.YtckmppkdpnhodaaGreatDoor
set_option linter.unusedVariables false
set_option linter.unusedSimpArgs false
open Go.RowKit Go.Proofs Go.Maps

/-- Every element reads as itself. -/
def heldR : Value → Option (DataW Value × List MemPlace) := fun v => some (.held v, [])

def MapIs (w : World) (b n : Nat) (f : List UInt8 → Option Value) : Prop :=
  ∃ D : DataW Value, w.ownsMap Tryz.prog 9 heldR b n D ∧ (∀ s, has D (.string s) = (f s).isSome) ∧ ∀ s v, f s = some v → ∀ z, D.atKey (.string s) z = .held v

theorem str_keyed : Keyed Tryz.prog 9 := string_keyed Tryz.underlying9

theorem MapIs.made (w : World) : MapIs (w.alloc (.map #[] 0)) w.heap.size 0 (fun _ => none) :=
  ⟨.map [], World.ownsMap_made w _ _ _, fun _ => rfl, fun _ _ h => by cases h⟩

theorem MapIs.lt {w : World} {b n : Nat} {f : List UInt8 → Option Value} (h : MapIs w b n f) : b < w.heap.size := by
  obtain ⟨D, hD, -⟩ := h
  exact hD.lt

theorem MapIs.same {w w' : World} {b n : Nat} {f : List UInt8 → Option Value} (h : MapIs w b n f) (hs : w'.heap[b]? = w.heap[b]?) : MapIs w' b n f := by
  obtain ⟨D, ⟨es, clock, hb, F, hn, hD⟩, h2, h3⟩ := h
  exact ⟨D, ⟨es, clock, hs.trans hb, F, hn, hD⟩, h2, h3⟩

theorem MapIs.below {w w' : World} {b n : Nat} {f : List UInt8 → Option Value} (h : MapIs w b n f) (hb : Below w.heap.size w w') : MapIs w' b n f := h.same (hb.block b h.lt)

theorem MapIs.mono {w : World} {b n n' : Nat} {f : List UInt8 → Option Value} (h : MapIs w b n f) (hn : n ≤ n') : MapIs w b n' f := by
  obtain ⟨D, hD, h2, h3⟩ := h
  exact ⟨D, hD.mono hn, h2, h3⟩

theorem held_val {D : DataW Value} {f : List UInt8 → Option Value} (h2 : ∀ s, has D (.string s) = (f s).isSome) (h3 : ∀ s v, f s = some v → ∀ z, D.atKey (.string s) z = .held v) {v z : Value} {ps : List MemPlace} {s : List UInt8} (hv : heldR v = some (D.atKey (.string s) (.held z), ps)) : v = (f s).getD z := by
  simp only [heldR, Option.some.injEq, Prod.mk.injEq] at hv
  have hv1 := hv.1
  cases hf : f s with
  | none =>
    have hh := h2 s
    rw [hf] at hh
    rw [atKey_of_not_has hh] at hv1
    simpa using hv1
  | some y =>
    rw [h3 _ _ hf] at hv1
    simpa using hv1

theorem isKey_str (s : List UInt8) : WideAt.IsKeyLit (.string s) := trivial

theorem MapIs.look {w : World} {b n : Nat} {f : List UInt8 → Option Value} (h : MapIs w b n f) {t e : TypeId} (ht : Tryz.prog.underlying t = some (.map 9 e)) {z : Value} (hz : (zeroValue e).run Tryz.prog w = .ok z w) (s : ByteArray) (hs : s.size ≤ maxLen) :
    (Instr.lookup t (.map (some b)) (.string s) false).run Tryz.prog w = .ok ((f s.data.toList).getD z) w := by
  obtain ⟨D, hD, h2, h3⟩ := h
  obtain ⟨v, ps, hr, hv⟩ := hD.lookup str_keyed ht hz (zd := .held z) (zp := []) rfl (WideMaps.keyOf_string_mk Tryz.underlying9 hs)
  rw [hr, held_val h2 h3 hv]

theorem MapIs.lookOk {w : World} {b n : Nat} {f : List UInt8 → Option Value} (h : MapIs w b n f) {t e : TypeId} (ht : Tryz.prog.underlying t = some (.map 9 e)) {z : Value} (hz : (zeroValue e).run Tryz.prog w = .ok z w) (s : ByteArray) (hs : s.size ≤ maxLen) :
    (Instr.lookup t (.map (some b)) (.string s) true).run Tryz.prog w = .ok (.tuple #[(f s.data.toList).getD z, .bool (f s.data.toList).isSome]) w := by
  obtain ⟨D, hD, h2, h3⟩ := h
  obtain ⟨v, ps, hr, hv⟩ := hD.look_ok str_keyed ht hz (zd := .held z) (zp := []) rfl (WideMaps.keyOf_string_mk Tryz.underlying9 hs)
  rw [hr, h2, held_val h2 h3 hv]

/-- A function from strings, at one of them another value. -/
def fput (f : List UInt8 → Option Value) (s : List UInt8) (v : Value) : List UInt8 → Option Value := fun x => if x = s then some v else f x

theorem MapIs.put {w : World} {b n : Nat} {f : List UInt8 → Option Value} (h : MapIs w b n f) {t e : TypeId} (ht : Tryz.prog.underlying t = some (.map 9 e)) (hn : n < maxLen) (s : ByteArray) (hs : s.size ≤ maxLen) (v : Value) :
    ∃ w', (Instr.mapUpdate t (.map (some b)) (.string s) v).run Tryz.prog w = .ok () w' ∧ MapIs w' b (n + 1) (fput f s.data.toList v) ∧ w.grownBy w' (some b) := by
  obtain ⟨D, hD, h2, h3⟩ := h
  obtain ⟨w', hr, hD', hg⟩ := hD.update str_keyed ht hn (WideMaps.keyOf_string_mk Tryz.underlying9 hs) (d := .held v) (ps := []) rfl
  have hm := hD.isMap
  refine ⟨w', hr, ⟨_, hD', fun x => ?_, fun x y hy z => ?_⟩, hg⟩
  · by_cases hx : x = s.data.toList
    · subst hx; rw [has_put_same hm (isKey_str _)]; simp [fput]
    · rw [has_put_other (fun e => hx (by cases e; rfl)), h2]; simp [fput, hx]
  · by_cases hx : x = s.data.toList
    · subst hx
      simp only [fput, if_pos, Option.some.injEq] at hy
      rw [atKey_put_same hm (isKey_str _), hy]
    · simp only [fput, if_neg hx] at hy
      rw [atKey_put_other (fun e => hx (by cases e; rfl)), h3 x y hy]

/-- The keys: each once. -/
theorem MapIs.keys {w : World} {b n : Nat} {f : List UInt8 → Option Value} (h : MapIs w b n f) :
    ∃ D : DataW Value, w.ownsMap Tryz.prog 9 heldR b n D ∧ Maps.size D ≤ n ∧ (strKeys D).Nodup ∧ ∀ s, s ∈ strKeys D ↔ (f s).isSome = true := by
  obtain ⟨D, hD, h2, h3⟩ := h
  obtain ⟨es, hes, hap⟩ := hD.tidy str_keyed
  obtain ⟨es', hes', hk'⟩ := hD.keysOf
  have he : es' = es := by rw [hes] at hes'; injection hes' with h; exact h.symm
  subst he
  have hk : ∀ p ∈ es', ∃ x, p.1 = .string x := fun p hp => by
    obtain ⟨v, hv⟩ := hk' p hp
    obtain ⟨x, -, hx, -⟩ := Maps.keyOf_str Tryz.underlying9 hv
    exact ⟨x, hx⟩
  refine ⟨D, hD, hD.size_le, ?_, fun s => ?_⟩
  · rw [hes]
    show (es'.map fun p => Go.strOf p.1).Nodup
    refine List.pairwise_map.2 (hap.imp_of_mem fun {p q} hp' hq' hne e => hne ?_)
    obtain ⟨a, ha⟩ := hk p hp'
    obtain ⟨b, hb⟩ := hk q hq'
    rw [ha, hb] at e ⊢
    exact congrArg _ e
  · rw [← h2, hes, has_eq, List.any_eq_true]
    show s ∈ es'.map (fun p => Go.strOf p.1) ↔ _
    rw [List.mem_map]
    refine ⟨fun ⟨p, hp, e⟩ => ⟨p, hp, ?_⟩, fun ⟨p, hp, e⟩ => ⟨p, hp, ?_⟩⟩
    · obtain ⟨a, ha⟩ := hk p hp
      rw [ha] at e ⊢
      simp only [Go.strOf] at e
      subst e
      exact WideAt.sameKey_self (isKey_str _)
    · obtain ⟨a, ha⟩ := hk p hp
      have := (WideAt.sameKey_iff (isKey_str s)).1 e
      rw [this]; rfl

end Go.Proofs.YtckmppkdpnhodaaGreatDoor

namespace Go.Proofs.YtckmppkdpnhodaaGreatDoor
set_option linter.unusedVariables false
set_option linter.unusedSimpArgs false
open Go.RowKit Go.Proofs Go.Shelf

attribute [local go_sem] Oper.semAt_some

set_option maxHeartbeats 1000000 in
theorem values_any (a : Option Addr) (len cap : Nat) (w : World) :
    Calls Tryz.prog 93 #[.slice a len cap] w fun e w' => e = .returned (.func (.func 131) #[] #[.pointer (some ⟨w.heap.size, 0, none⟩)]) ∧ w' = w.alloc (.cells #[.slice a len cap] 101) := by
  go_enter Tryz.func93, Tryz.ntmps93
  go_wp2
  go_ret
  exact ⟨rfl, rfl⟩

set_option maxHeartbeats 1000000 in
theorem all_any (rb : Nat) (a : Option Addr) (len cap : Nat) (w : World) (h4 : w.cell? ⟨rb, 4, none⟩ = some (.slice a len cap)) :
    Calls Tryz.prog 52 #[.pointer (some ⟨rb, 4, none⟩)] w fun e w' => e = .returned (.func (.func 131) #[] #[.pointer (some ⟨w.heap.size, 0, none⟩)]) ∧ w' = w.alloc (.cells #[.slice a len cap] 101) := by
  go_enter Tryz.func52, Tryz.ntmps52
  go_wp2_with (go_at_call 93; refine (values_any _ _ _ _).mono ?_; rintro e w' ⟨rfl, rfl⟩)
  go_ret
  exact ⟨rfl, rfl⟩

end Go.Proofs.YtckmppkdpnhodaaGreatDoor
