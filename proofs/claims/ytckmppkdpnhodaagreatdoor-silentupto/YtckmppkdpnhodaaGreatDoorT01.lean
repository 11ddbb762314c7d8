/-
  The arguments read again; the packages' tables. The plain mathematics of the trace (what was done, what was known where it was done) and of its carts: no Go program is named here. Contracts of the small readers of packages cartellaw and cartelref: in, Ahead. Contracts of cartellaw.pick, number, place, unknown. Contract of (*book).kept where only lists of commands came out. Small laws on memory: which blocks a step may turn; append, told by its two ways; a row of cells, written in place. Contract of (*book).ops: a list of commands that came out is written full of a mark, and kept with three longer ones. Contract of (*World).asks: Known is held to what was known. The end of (*World).asks: the list that came out is given to the book; what has become of the world. The world of the statements in memory: which block holds what (by colours: no two things have a block in common), and what it reads as. The replicas are held by a predicate R of their own. (*World).asks over the whole world in memory. Contract of (*World).asks: Known is held to what was known. Contract of (*World).asks: Known is held to what was known. (*World).asks over the whole world in memory: its contract. Contracts of cartelref.letters, count, split. Contract of cartelref.Read. The plain mathematics of cartelref.words: the words in order, each once. The plain mathematics of cartelref.View: the lines of a cart. Contract of cartelref.Read, in one form each for a command and for none; cartelref.decimal. Contracts of cartelref.stays, Number, Has. Contracts of cartelref.Number and Has. Contract of cartelref.words. Contract of cartelref.View. The world in memory behind a step that makes memory and turns nothing old; its cells; two texts of one cart are one. (*World).views over the whole world in memory. (*World).does over the whole world in memory, where the text is no command, or what is to go is not there. (*World).does over the whole world in memory, where the replica is full. The world in memory: new blocks are nobody's; behind a command that was done at a replica; behind what does writes of it. The plain mathematics of replicas that hear nothing: of a replica's own commands, and of the trace of all. append of a list of numbers onto nothing: a copy. (*World).does over the whole world in memory, where the command is done.
-/
import Derived.Test.YtckmppkdpnhodaaGreatDoorProg
import Derived.Deep.Modes
import Derived.Deep.Slices
import Derived.Lib.LaidTab
import Derived.OpenShut
import Derived.RowKit
import Derived.WalkKit
import Derived.Test.YtckmppkdpnhodaaGreatDoorRows
import Derived.WalkSpells
import Derived.WalkLawsBesides
import Derived.Deep.QuietTactic
import Derived.BigQuiet
import Derived.Deep.RegionHeld3
import Derived.Deep.DrawnRows
import Derived.Deep.AppendLies
import Derived.Deep.MidRow
import Derived.Deep.Draws
import Derived.Deep.RegionLaw
import Derived.Sort.Walk0
import Derived.Lib.ItoaNum
import Derived.Deep.Cut
namespace Go.Proofs.YtckmppkdpnhodaaGreatDoor
set_option linter.unusedVariables false
set_option linter.unusedSimpArgs false
open Go.ChangeShapes Go.WideShapes Go.RowKit Go.Deep

section
variable {H : Type} {enc : TypeId × Value → H} {P : Program} {W W' : World}

theorem same_below (hb : Below W.heap.size W W') {p : MemPlace} (h : p.block < W.heap.size) : W.sameAt W' p := by
  cases p with
  | cell b off => exact hb.cell (p := ⟨b, off, none⟩) h
  | map b => exact hb.block b h

theorem kept_below (hb : Below W.heap.size W W') (may : MemPlace → Prop) : W.keptBut W' may := by
  refine ⟨hb.os, hb.output, fun i hi => ?_⟩
  rw [hb.block i hi]
  cases W.heap[i]? with
  | none => rfl
  | some o => cases o <;> simp

theorem add_block (a : Addr) (i : Nat) : (a.add i).block = a.block := by unfold Addr.add; split <;> rfl

/-- A list that came in reads again as it did, if what it holds does. -/
theorem slice_again {t e : TypeId} {n : Nat} {cs : List Value} {x : DataW H × List MemPlace} (ht : P.underlying t = some (.slice e)) (hb : Below W.heap.size W W') (hc : 0 < P.cellsOf e)
    (hel : ∀ n cs x, DataW.trod enc P W 0 (fun _ => true) true n e cs = some x → (∀ q ∈ x.2, q.block < W.heap.size) → ∃ m, DataW.trod enc P W' 0 (fun b => decide (b < W.heap.size)) true m e cs = some x)
    (h : DataW.trod enc P W 0 (fun _ => true) true n t cs = some x) (hp : ∀ q ∈ x.2, q.block < W.heap.size) :
    ∃ m, DataW.trod enc P W' 0 (fun b => decide (b < W.heap.size)) true m t cs = some x := by
  rcases open_slice ht h with ⟨rfl, rfl⟩ | ⟨a, len, cap, m, n, D, Pl, rfl, h0, hl, hm, hmm, rfl, hi⟩
  · exact ⟨1, by simp [DataW.trod, ht]⟩
  · simp only [if_true] at hmm
    subst hmm
    have key : ∀ i, i < m → ∃ cs n, W'.cells? 0 (a.add (i * P.cellsOf e)) (P.cellsOf e) = some cs ∧ DataW.trod enc P W' 0 (fun b => decide (b < W.heap.size)) true n e cs = some (D i, Pl i) := fun i him => by
      obtain ⟨cs', h1, h2⟩ := hi i him
      have hab : a.block < W.heap.size := hp (.cell a.block (a.off + 0)) (List.mem_append_left _ (MemPlace.mem_row.2 ⟨0, Nat.mul_pos (by omega) hc, rfl⟩))
      obtain ⟨k, hk⟩ := hel n cs' (D i, Pl i) h2 (fun q hq => hp q (List.mem_append_right _ (List.mem_flatMap.2 ⟨i, List.mem_range.2 him, hq⟩)))
      refine ⟨cs', k, World.cells?_carry h1 (fun q hq => ?_), hk⟩
      obtain ⟨j, -, rfl⟩ := MemPlace.mem_row.1 hq
      exact same_below hb (by show (a.add _).block < _; rw [add_block]; exact hab)
    by_cases hm0 : m = 0
    · subst hm0
      have hl0 : len = 0 := by omega
      subst hl0
      by_cases hs : a.block < W.heap.size
      · exact shut_slice_whole_cells ht h0 hl hm (by simpa using hs) D Pl key
      · simpa using shut_slice_cells (w := W') (held := true) ht h0 (Nat.le_refl 0) hm (spare := fun b => decide (b < W.heap.size)) (by simpa using hs) D Pl key
    · have hab : a.block < W.heap.size := hp (.cell a.block (a.off + 0)) (List.mem_append_left _ (MemPlace.mem_row.2 ⟨0, Nat.mul_pos (by omega) hc, rfl⟩))
      exact shut_slice_whole_cells ht h0 hl hm (by simpa using hab) D Pl key

theorem post_true {f : Func} {s : ChangeSpec} {args : Array Value} {ds gs : List (DataW H)} {before p : List MemPlace} {tb : TypeId} (hW : DataW.Whole enc P f.params.toList s.vars false W args.toList ds gs before)
    (hr : f.resultTypes = #[tb]) (htb : P.underlying tb = some .bool) (hvars : s.vars = []) (hres : (s.fn H (ds ++ gs)).results = [.lit (.bool true)]) (hargs : (s.fn H (ds ++ gs)).args = ds) (hv : (s.fn H (ds ++ gs)).vars = [])
    (hb : Below W.heap.size W W') (hag : DataW.TrodAll enc P W' 0 (fun b => decide (b < W.heap.size)) true f.params.toList args.toList ds p) : s.post enc P f false true false false W args (.bool true) W' :=
  ⟨ds, gs, before, [], p, [], hW, by rw [hres, hr]; exact trodAll_cons_mk (shut_bool htb true) trodAll_mk0, by rw [hargs]; exact hag, by rw [hvars, hv]; rfl, kept_below hb _, fun h => by cases h⟩

/-- A variable of the list, and what it reads as. -/
theorem laid_at : ∀ {l : List (String × DataW Unit)} {ps : List MemPlace}, DataW.LaidVars P W l ps → ∀ {n : String} {d : DataW Unit}, (n, d) ∈ l →
    ∃ g t cs fuel p, P.globalNamed n = some g ∧ (P.globals[g]?).map (·.type) = some t ∧ W.var? P n = some cs ∧ DataW.trod (fun _ => ()) P W 0 (fun _ => true) false fuel t cs.toList = some (d, p)
  | [], _, _, _, _, h => by cases h
  | (n', d') :: r, ps, ⟨g, t, cs, fuel, p, q, h1, h2, h3, h4, h5, h6⟩, n, d, h => by
    rcases List.mem_cons.1 h with e | e
    · cases e; exact ⟨g, t, cs, fuel, p, h1, h2, h3, h4⟩
    · exact laid_at h5 e

/-- A table of numbers of the list. -/
theorem tab_at {name : String} {k : IntKind} {zs : List Int} {l : List (String × DataW Unit)} {g : Nat} {t e : TypeId} {n : Nat} (hg : P.globalNamed name = some g) (hty : (P.globals[g]?).map (·.type) = some t) (ht : P.underlying t = some (.array n e)) (he : P.underlying e = some (.int k)) (hce : P.cellsOf e = 1) (hct : P.cellsOf t = n)
    (h : laidMet P l W) (hm : (name, Lib.tabData k zs) ∈ l) : Lib.TabIs P W name k zs := by
  obtain ⟨ps, hl, -⟩ := h
  obtain ⟨g', t', cs, fuel, p, hg', ht', hvar, hd⟩ := laid_at hl hm
  obtain rfl := Option.some.inj (hg.symm.trans hg')
  obtain rfl := Option.some.inj (hty.symm.trans ht')
  unfold Lib.TabIs
  rw [hvar, ← Lib.cells_of_tab ht he hce hct hd]

/-- A table of texts of the list: its cells. -/
theorem strs_at {name : String} {zs : List (List UInt8)} {l : List (String × DataW Unit)} {g : Nat} {t e : TypeId} {n : Nat} (hg : P.globalNamed name = some g) (hty : (P.globals[g]?).map (·.type) = some t) (ht : P.underlying t = some (.array n e)) (he : P.underlying e = some .string) (hce : P.cellsOf e = 1) (hct : P.cellsOf t = n)
    (h : laidMet P l W) (hm : (name, DataW.agg (zs.map fun z => .lit (.string z))) ∈ l) : ∀ (i : Nat) (z : List UInt8), zs[i]? = some z → W.cell? ⟨g, i, none⟩ = some (.string ⟨z.toArray⟩) := by
  obtain ⟨ps, hl, -⟩ := h
  obtain ⟨g', t', cs, fuel, p, hg', ht', hvar, hd⟩ := laid_at hl hm
  obtain rfl := Option.some.inj (hg.symm.trans hg')
  obtain rfl := Option.some.inj (hty.symm.trans ht')
  intro i z hz
  have hcell := World.var?_cell hg hvar i
  rw [hcell]
  cases fuel with
  | zero => simp [DataW.trod] at hd
  | succ fuel =>
    simp only [DataW.trod, ht, hce, hct, Nat.mul_one] at hd
    split at hd
    · rename_i hlen
      obtain ⟨xs, hmm, hx⟩ := Option.map_eq_some_iff.1 hd
      have hxs : xs.map (·.1) = zs.map fun z => (DataW.lit (.string z) : DataW Unit) := by
        have := congrArg Prod.fst hx
        simpa using this
      have hi : i < zs.length := (List.getElem?_eq_some_iff.1 hz).1
      have hxl : xs.length = n := by simpa using Lib.mapM_length hmm
      have hzl : zs.length = n := by
        have := congrArg List.length hxs
        simp at this
        omega
      obtain ⟨b, hb, hf⟩ := Lib.mapM_at hmm i i (by rw [List.getElem?_range (by omega)])
      obtain ⟨s, hc, rfl, -⟩ := DataW.trod_string he hf
      have h1 : cs[i]? = some (.string s) := by
        have := congrArg (·[0]?) hc
        simpa [List.getElem?_take, List.getElem?_drop] using this
      have h2 : (xs.map (·.1))[i]? = some (DataW.lit (.string s.data.toList) : DataW Unit) := by simp [hb]
      rw [hxs] at h2
      simp only [List.getElem?_map, hz, Option.map_some, Option.some.injEq, DataW.lit.injEq, Lit.string.injEq] at h2
      rw [h1, h2]
    · cases hd

end
end Go.Proofs.YtckmppkdpnhodaaGreatDoor

namespace Go.Proofs.YtckmppkdpnhodaaGreatDoor
set_option linter.unusedVariables false
set_option linter.unusedSimpArgs false
open Go.RowKit

/-- What a command does: five things, told by a type of five values: add closed, remove listen, apply established, revoke finWait, note closeWait. -/
abbrev Kd := Go.Tcp

def Kd.bs : Kd → ByteArray
  | .closed => ⟨#[97, 100, 100]⟩
  | .listen => ⟨#[114, 101, 109, 111, 118, 101]⟩
  | .established => ⟨#[97, 112, 112, 108, 121]⟩
  | .finWait => ⟨#[114, 101, 118, 111, 107, 101]⟩
  | .closeWait => ⟨#[110, 111, 116, 101]⟩

structure Cm where
  k : Kd
  word : ByteArray
  count : Nat

theorem take_snoc' {α : Type} (l : List α) (k : Nat) (h : k < l.length) : l.take (k + 1) = l.take k ++ [l[k]] := by
  rw [List.take_succ_eq_append_getElem h]

theorem toList_inj {a b : ByteArray} (h : a.toList = b.toList) : a = b := by
  rw [ByteArray.toList_eq, ByteArray.toList_eq] at h
  exact ByteArray.ext (Array.toList_inj.mp h)

theorem Kd.bs_inj {a b : Kd} (h : a.bs = b.bs) : a = b := by
  cases a <;> cases b <;> first | rfl | (simp [Kd.bs] at h)

end Go.Proofs.YtckmppkdpnhodaaGreatDoor

namespace Go.Proofs.YtckmppkdpnhodaaGreatDoor
set_option linter.unusedVariables false
set_option linter.unusedSimpArgs false
open Go.RowKit

theorem ret_int {k : IntKind} {a b : Int} (h : a = b) : Ending.returned (.int k a) = .returned (.int k b) := by rw [h]
theorem ret_bool {a b : Bool} (h : a = b) : Ending.returned (.bool a) = .returned (.bool b) := by rw [h]

theorem cell_below {w w' : World} (hb : Below w.heap.size w w') {a : Addr} {v : Value} (h : w.cell? a = some v) : w'.cell? a = some v :=
  (hb.cell (World.block_lt_of_cell? w a h)).trans h

end Go.Proofs.YtckmppkdpnhodaaGreatDoor

namespace Go.Proofs.YtckmppkdpnhodaaGreatDoor
set_option linter.unusedVariables false
set_option linter.unusedSimpArgs false
open Go.RowKit

def pickN (c : Int) (n : Int) : Nat := ((if c < 0 then -(c + 1) else c) % n).toNat

theorem pickN_lt {c n : Int} (hn : 0 < n) : (pickN c n : Int) < n := by
  unfold pickN
  generalize (if c < 0 then -(c + 1) else c) = x
  have h1 := Int.emod_nonneg x (show n ≠ 0 by omega)
  have h2 := Int.emod_lt_of_pos x hn
  omega

theorem pickN_int {c n : Int} (hn : 0 < n) : (pickN c n : Int) = (if c < 0 then -(c + 1) else c) % n := by
  unfold pickN
  have h1 := Int.emod_nonneg (if c < 0 then -(c + 1) else c) (show n ≠ 0 by omega)
  omega

end Go.Proofs.YtckmppkdpnhodaaGreatDoor

namespace Go.Proofs.YtckmppkdpnhodaaGreatDoor
set_option linter.unusedVariables false
set_option linter.unusedSimpArgs false
open Go.RowKit

attribute [local go_sem ↓] Go.wp_at_zero Go.wp_at_succ

end Go.Proofs.YtckmppkdpnhodaaGreatDoor

namespace Go.Proofs.YtckmppkdpnhodaaGreatDoor
set_option linter.unusedVariables false
set_option linter.unusedSimpArgs false
open Go.RowKit

/-- Of the blocks that were there none has turned but those of S. -/
structure Upd (S : List (Option Nat)) (w w' : World) : Prop where
  os : w'.os = w.os
  tape : w'.tape = w.tape
  output : w'.output = w.output
  size : w.heap.size ≤ w'.heap.size
  block : ∀ k, k < w.heap.size → some k ∉ S → w'.heap[k]? = w.heap[k]?

namespace Upd
variable {S T : List (Option Nat)} {a b c w w' : World}

theorem refl (S : List (Option Nat)) (w : World) : Upd S w w := ⟨rfl, rfl, rfl, Nat.le_refl _, fun _ _ _ => rfl⟩

/-- Two steps: what the second turns is among S, or is new. -/
theorem trans (h : Upd S a b) (k : Upd T b c) (hT : ∀ i, some i ∈ T → some i ∈ S ∨ a.heap.size ≤ i) : Upd S a c :=
  ⟨k.os.trans h.os, k.tape.trans h.tape, k.output.trans h.output, Nat.le_trans h.size k.size, fun i hi hS => by
    rw [k.block i (Nat.lt_of_lt_of_le hi h.size) (fun e => by rcases hT i e with h1 | h1; exact hS h1; omega), h.block i hi hS]⟩

theorem below (h : Upd S a b) (k : Below b.heap.size b c) : Upd S a c :=
  ⟨k.os.trans h.os, k.tape.trans h.tape, k.output.trans h.output, Nat.le_trans h.size k.size, fun i hi hS => by
    rw [k.block i (Nat.lt_of_lt_of_le hi h.size), h.block i hi hS]⟩

theorem of_below (k : Below a.heap.size a b) : Upd S a b := (refl S a).below k

theorem drew (h : Upd S a b) : Upd S a b.drew := ⟨h.os, h.tape, h.output, h.size, h.block⟩
theorem drewN (h : Upd S a b) (n : Nat) : Upd S a (b.drewN n) := ⟨h.os, h.tape, h.output, h.size, h.block⟩

theorem alloc (h : Upd S a b) (o : Obj) : Upd S a (b.alloc o) := h.below ((Below.refl _ _).alloc (Nat.le_refl _) _)

theorem setCell (h : Upd S a b) {p : Addr} (hp : some p.block ∈ S ∨ a.heap.size ≤ p.block) (v : Value) : Upd S a (b.setCell p v) :=
  ⟨h.os, h.tape, h.output, by have := h.size; simpa [World.setCell] using this, fun k hk hS => by
    rw [Below.heap_setCell _ _ _ _ (fun e => by subst e; rcases hp with hp | hp; exact hS hp; omega), h.block k hk hS]⟩

theorem grown {row : Option Nat} (h : Upd S a b) (hg : b.grownBy c row) (hr : ∀ k, row = some k → some k ∈ S ∨ a.heap.size ≤ k) : Upd S a c :=
  ⟨hg.os.trans h.os, hg.tape.trans h.tape, hg.output.trans h.output, Nat.le_trans h.size hg.size, fun k hk hS => by
    rw [hg.block k (Nat.lt_of_lt_of_le hk h.size) (fun e => by rcases hr k e.symm with h1 | h1; exact hS h1; omega), h.block k hk hS]⟩

theorem mono (h : Upd S a b) (hST : ∀ i, some i ∈ S → some i ∈ T) : Upd T a b :=
  ⟨h.os, h.tape, h.output, h.size, fun k hk hT => h.block k hk fun e => hT (hST k e)⟩

theorem cell (h : Upd S a b) {p : Addr} {v : Value} (hc : a.cell? p = some v) (hp : some p.block ∉ S) : b.cell? p = some v :=
  (World.cell?_of_block (h.block p.block (World.block_lt_of_cell? a p hc) hp)).trans hc

theorem owns (h : Upd S a b) {base : Nat} {e : TypeId} {size : Nat} {v : Value} {n : Nat} {xs : List Value} (ho : a.ownsRow base e size v n xs) (hv : ∀ k, v.ownBlock = some k → some k ∉ S) : b.ownsRow base e size v n xs := by
  refine ⟨ho.1, ?_⟩
  rcases ho.2 with hn | ⟨g, cap, cur, rfl, hb, hg, rest⟩
  · exact .inl hn
  · exact .inr ⟨g, cap, cur, rfl, hb, by rw [h.block g (Array.getElem?_eq_some_iff.1 hg).1 (hv g rfl)]; exact hg, rest⟩
end Upd

section
variable {P : Program} (w : World)

end

theorem heap_setCell_same {w : World} {b o : Nat} {c : Array Value} {e : TypeId} {fr : Nat × Nat} (h : w.heap[b]? = some (.cells c e fr)) (v : Value) : (w.setCell ⟨b, o, none⟩ v).heap[b]? = some (.cells (c.setIfInBounds o v) e fr) := by
  simp [World.setCell, Array.getElem?_modify, h]

theorem cell_of_heap {w : World} {b : Nat} {c : Array Value} {e : TypeId} {fr : Nat × Nat} (h : w.heap[b]? = some (.cells c e fr)) (o : Nat) : w.cell? ⟨b, o, none⟩ = c[o]? := by
  simp [World.cell?, h]

theorem frozen_of_heap {w : World} {b : Nat} {c : Array Value} {e : TypeId} (h : w.heap[b]? = some (.cells c e (0, 0))) (o : Nat) : w.frozen? ⟨b, o, none⟩ = false := by
  simp [World.frozen?, h]

theorem owns_base0 {w : World} {base : Nat} {e : TypeId} {size : Nat} {v : Value} {n : Nat} {xs : List Value} (h : w.ownsRow base e size v n xs) : w.ownsRow 0 e size v n xs := by
  refine ⟨h.1, ?_⟩
  rcases h.2 with hn | ⟨g, cap, cur, hv, _, rest⟩
  · exact .inl hn
  · exact .inr ⟨g, cap, cur, hv, Nat.zero_le _, rest⟩

theorem owns_setCell_other {w : World} {base : Nat} {e : TypeId} {size : Nat} {v : Value} {n : Nat} {xs : List Value} (h : w.ownsRow base e size v n xs) {a : Addr} (ha : ∀ k, v.ownBlock = some k → k ≠ a.block) (u : Value) : (w.setCell a u).ownsRow base e size v n xs := by
  refine ⟨h.1, ?_⟩
  rcases h.2 with hn | ⟨g, cap, cur, rfl, hb, hg, rest⟩
  · exact .inl hn
  · exact .inr ⟨g, cap, cur, rfl, hb, by rw [Below.heap_setCell _ _ _ _ (ha g rfl)]; exact hg, rest⟩

end Go.Proofs.YtckmppkdpnhodaaGreatDoor

namespace Go.Proofs.YtckmppkdpnhodaaGreatDoor
set_option linter.unusedVariables false
set_option linter.unusedSimpArgs false
open Go.RowKit

theorem Tryz.info_op : (Tryz.prog.info? 68).map (fun i => (i.zero, i.size, i.bytes)) = some (some (.agg #[.int .i64 0, .int .i64 0, .string ByteArray.empty]), 3, 32) := by kernel_rfl
end Go.Proofs.YtckmppkdpnhodaaGreatDoor

namespace Go.Proofs.YtckmppkdpnhodaaGreatDoor
set_option linter.unusedVariables false
set_option linter.unusedSimpArgs false
open Go.RowKit

end Go.Proofs.YtckmppkdpnhodaaGreatDoor

namespace Go.Proofs.YtckmppkdpnhodaaGreatDoor
set_option linter.unusedVariables false
set_option linter.unusedSimpArgs false
open Go.RowKit

end Go.Proofs.YtckmppkdpnhodaaGreatDoor

namespace Go.Proofs.YtckmppkdpnhodaaGreatDoor
set_option linter.unusedVariables false
set_option linter.unusedSimpArgs false
open Go.RowKit

variable (R : World → Nat → Nat → Nat → List Cm → (Nat → Prop) → Prop)

end Go.Proofs.YtckmppkdpnhodaaGreatDoor

namespace Go.Proofs.YtckmppkdpnhodaaGreatDoor
set_option linter.unusedVariables false
set_option linter.unusedSimpArgs false
open Go.RowKit

variable {R : World → Nat → Nat → Nat → List Cm → (Nat → Prop) → Prop}

end Go.Proofs.YtckmppkdpnhodaaGreatDoor

namespace Go.Proofs.YtckmppkdpnhodaaGreatDoor
set_option linter.unusedVariables false
set_option linter.unusedSimpArgs false
open Go.RowKit

attribute [local go_sem ↓] Go.wp_at_zero Go.wp_at_succ

end Go.Proofs.YtckmppkdpnhodaaGreatDoor

namespace Go.Proofs.YtckmppkdpnhodaaGreatDoor
set_option linter.unusedVariables false
set_option linter.unusedSimpArgs false
open Go.RowKit

attribute [local go_sem ↓] Go.wp_at_zero Go.wp_at_succ

end Go.Proofs.YtckmppkdpnhodaaGreatDoor

namespace Go.Proofs.YtckmppkdpnhodaaGreatDoor
set_option linter.unusedVariables false
set_option linter.unusedSimpArgs false
open Go.RowKit

variable {R : World → Nat → Nat → Nat → List Cm → (Nat → Prop) → Prop}

end Go.Proofs.YtckmppkdpnhodaaGreatDoor

namespace Go.Proofs.YtckmppkdpnhodaaGreatDoor
set_option linter.unusedVariables false
set_option linter.unusedSimpArgs false
open Go.RowKit

def isLow (c : UInt8) : Bool := decide (97 ≤ c.toNat) && decide (c.toNat ≤ 122)
def wordB (s : ByteArray) : Bool := decide (1 ≤ s.size) && decide (s.size ≤ 8) && s.data.toList.all isLow

theorem take_byte (s : ByteArray) (k : Nat) (h : k < s.size) : s.data.toList.take (k + 1) = s.data.toList.take k ++ [s[k]] := by
  rw [List.take_succ_eq_append_getElem (by simpa using h)]; rfl

theorem mem_byte (s : ByteArray) (k : Nat) (h : k < s.size) : s[k] ∈ s.data.toList := by
  have : s.data.toList[k]'(by simpa using h) ∈ s.data.toList := List.getElem_mem _
  exact this

/-- The first blank's place; the length where there is none. -/
def blank (s : ByteArray) : Nat := s.data.toList.findIdx (· == 32)

/-- What a text of digits is worth: 0 where it is no count. -/
def countGo : List UInt8 → Nat → Nat
  | [], n => n
  | c :: r, n => if c.toNat < 48 ∨ 57 < c.toNat then 0 else if 10 * n + (c.toNat - 48) = 0 ∨ 99 < 10 * n + (c.toNat - 48) then 0 else countGo r (10 * n + (c.toNat - 48))

def countN (s : ByteArray) : Nat := countGo s.data.toList 0

theorem drop_byte (s : ByteArray) (k : Nat) (h : k < s.size) : s.data.toList.drop k = s[k] :: s.data.toList.drop (k + 1) := by
  rw [List.drop_eq_getElem_cons (by simpa using h)]; rfl

theorem countGo_le : ∀ (l : List UInt8) (n : Nat), n ≤ 99 → countGo l n ≤ 99
  | [], n, h => h
  | c :: r, n, h => by
    unfold countGo
    split
    · omega
    · split
      · omega
      · exact countGo_le r _ (by omega)

end Go.Proofs.YtckmppkdpnhodaaGreatDoor

namespace Go.Proofs.YtckmppkdpnhodaaGreatDoor
set_option linter.unusedVariables false
set_option linter.unusedSimpArgs false
open Go.RowKit

/-- A text at its first blank. -/
def headOf (s : ByteArray) : ByteArray := if blank s < s.size then s.extract 0 (blank s) else s
def tailOf (s : ByteArray) : ByteArray := if blank s < s.size then s.extract (blank s + 1) s.size else ByteArray.empty
def hasBlank (s : ByteArray) : Bool := decide (blank s < s.size)

/-- The command that a text is, if it is one. -/
def readC (s : ByteArray) : Option Cm :=
  if hasBlank s = true ∧ wordB (headOf (tailOf s)) = true then
    if headOf s = (Kd.bs Go.Tcp.closed) then
      if hasBlank (tailOf s) = true ∧ 0 < countN (tailOf (tailOf s)) then some ⟨.closed, headOf (tailOf s), countN (tailOf (tailOf s))⟩ else none
    else if hasBlank (tailOf s) = true then none
    else if headOf s = (Kd.bs Go.Tcp.listen) then some ⟨.listen, headOf (tailOf s), 0⟩
    else if headOf s = (Kd.bs Go.Tcp.established) then some ⟨.established, headOf (tailOf s), 0⟩
    else if headOf s = (Kd.bs Go.Tcp.finWait) then some ⟨.finWait, headOf (tailOf s), 0⟩
    else if headOf s = (Kd.bs Go.Tcp.closeWait) then some ⟨.closeWait, headOf (tailOf s), 0⟩
    else none
  else none

theorem tailOf_size (s : ByteArray) : (tailOf s).size ≤ s.size := by
  unfold tailOf; split
  · rw [ByteArray.size_extract]; omega
  · simp

theorem headOf_size (s : ByteArray) : (headOf s).size ≤ s.size := by
  unfold headOf; split
  · rw [ByteArray.size_extract]; omega
  · simp

section
variable (s : ByteArray) (w : World)

end
end Go.Proofs.YtckmppkdpnhodaaGreatDoor

namespace Go.Proofs.YtckmppkdpnhodaaGreatDoor
set_option linter.unusedVariables false
set_option linter.unusedSimpArgs false
open Go.RowKit Go.Proofs

abbrev Wd := List UInt8

theorem wd_trans {a b c : Wd} (h : a < b) (k : b < c) : a < c := List.lt_trans h k
theorem wd_irrefl (a : Wd) : ¬ a < a := List.lt_irrefl a
theorem wd_tri {a b : Wd} (h : ¬ a < b) (k : ¬ b < a) : a = b := List.le_antisymm (List.not_lt.1 k) (List.not_lt.1 h)
end Go.Proofs.YtckmppkdpnhodaaGreatDoor

namespace Go.Proofs.YtckmppkdpnhodaaGreatDoor
set_option linter.unusedVariables false
set_option linter.unusedSimpArgs false
open Go.RowKit Go.Proofs

/-- A number in decimal digits. -/
def decN (n : Nat) : ByteArray := ⟨(Lib.decDigits n).toArray⟩

def itemW : List UInt8 := [105, 116, 101, 109, 32]
def couponW : List UInt8 := [99, 111, 117, 112, 111, 110, 32]
def noteW : List UInt8 := [110, 111, 116, 101, 32]

theorem flatMap_snoc {α β : Type} (l : List α) (k : Nat) (h : k < l.length) (f : α → List β) : (l.take (k + 1)).flatMap f = (l.take k).flatMap f ++ f l[k] := by
  rw [take_snoc' l k h, List.flatMap_append, List.flatMap_cons, List.flatMap_nil, List.append_nil]

theorem decN_small {n : Nat} (h : n < 10) : decN n = ⟨#[UInt8.ofNat (48 + n)]⟩ := by
  unfold decN; rw [Lib.decDigits, dif_pos h]

theorem decN_big {n : Nat} (h : ¬ n < 10) : decN n = decN (n / 10) ++ ⟨#[UInt8.ofNat (48 + n % 10)]⟩ := by
  unfold decN; rw [Lib.decDigits, dif_neg h]
  apply ByteArray.ext
  simp [ByteArray.data_append]

theorem decN_size : ∀ (k n : Nat), n < 10 ^ (k + 1) → (decN n).size ≤ k + 1
  | 0, n, h => by rw [decN_small (by simpa using h)]; simp [ByteArray.size]
  | k + 1, n, h => by
    by_cases h1 : n < 10
    · rw [decN_small h1]; simp [ByteArray.size]
    · rw [decN_big h1, ByteArray.size_append]
      have := decN_size k (n / 10) (by rw [Nat.pow_succ] at h; omega)
      have e : (ByteArray.mk #[UInt8.ofNat (48 + n % 10)]).size = 1 := rfl
      omega

end Go.Proofs.YtckmppkdpnhodaaGreatDoor

namespace Go.Proofs.YtckmppkdpnhodaaGreatDoor
set_option linter.unusedVariables false
set_option linter.unusedSimpArgs false
open Go.RowKit

section
variable (s : ByteArray) (w : World)

end

end Go.Proofs.YtckmppkdpnhodaaGreatDoor

namespace Go.Proofs.YtckmppkdpnhodaaGreatDoor
set_option linter.unusedVariables false
set_option linter.unusedSimpArgs false
open Go.RowKit

end Go.Proofs.YtckmppkdpnhodaaGreatDoor

namespace Go.Proofs.YtckmppkdpnhodaaGreatDoor
set_option linter.unusedVariables false
set_option linter.unusedSimpArgs false
open Go.RowKit

end Go.Proofs.YtckmppkdpnhodaaGreatDoor

namespace Go.Proofs.YtckmppkdpnhodaaGreatDoor
set_option linter.unusedVariables false
set_option linter.unusedSimpArgs false
open Go.RowKit

end Go.Proofs.YtckmppkdpnhodaaGreatDoor

namespace Go.Proofs.YtckmppkdpnhodaaGreatDoor
set_option linter.unusedVariables false
set_option linter.unusedSimpArgs false
open Go.RowKit Go.Proofs

end Go.Proofs.YtckmppkdpnhodaaGreatDoor

namespace Go.Proofs.YtckmppkdpnhodaaGreatDoor
set_option linter.unusedVariables false
set_option linter.unusedSimpArgs false
open Go.RowKit Go.Proofs

variable {R : World → Nat → Nat → Nat → List Cm → (Nat → Prop) → Prop}

/-- Two lists in order with the same members are one. -/
theorem sorted_unique : ∀ (a b : List Wd), a.Pairwise (· < ·) → b.Pairwise (· < ·) → (∀ x, x ∈ a ↔ x ∈ b) → a = b
  | [], [], _, _, _ => rfl
  | [], y :: b, _, _, h => by have := (h y).2 (List.mem_cons_self ..); simp at this
  | x :: a, [], _, _, h => by have := (h x).1 (List.mem_cons_self ..); simp at this
  | x :: a, y :: b, ha, hb, h => by
    obtain ⟨ha1, ha2⟩ := List.pairwise_cons.1 ha
    obtain ⟨hb1, hb2⟩ := List.pairwise_cons.1 hb
    have exy : x = y := by
      rcases List.mem_cons.1 ((h x).1 (List.mem_cons_self ..)) with e | e
      · exact e
      · rcases List.mem_cons.1 ((h y).2 (List.mem_cons_self ..)) with e' | e'
        · exact e'.symm
        · exact absurd (wd_trans (hb1 x e) (ha1 y e')) (wd_irrefl _)
    subst exy
    congr 1
    refine sorted_unique a b ha2 hb2 fun z => ⟨fun hz => ?_, fun hz => ?_⟩
    · rcases List.mem_cons.1 ((h z).1 (List.mem_cons_of_mem _ hz)) with e | e
      · subst e; exact absurd (ha1 z hz) (wd_irrefl _)
      · exact e
    · rcases List.mem_cons.1 ((h z).2 (List.mem_cons_of_mem _ hz)) with e | e
      · subst e; exact absurd (hb1 z hz) (wd_irrefl _)
      · exact e

end Go.Proofs.YtckmppkdpnhodaaGreatDoor

namespace Go.Proofs.YtckmppkdpnhodaaGreatDoor
set_option linter.unusedVariables false
set_option linter.unusedSimpArgs false
open Go.RowKit Go.Proofs

variable {R : World → Nat → Nat → Nat → List Cm → (Nat → Prop) → Prop}

attribute [local go_sem ↓] Go.wp_at_zero Go.wp_at_succ

end Go.Proofs.YtckmppkdpnhodaaGreatDoor

namespace Go.Proofs.YtckmppkdpnhodaaGreatDoor
set_option linter.unusedVariables false
set_option linter.unusedSimpArgs false
open Go.RowKit Go.Proofs

variable {R : World → Nat → Nat → Nat → List Cm → (Nat → Prop) → Prop}

attribute [local go_sem ↓] Go.wp_at_zero Go.wp_at_succ

end Go.Proofs.YtckmppkdpnhodaaGreatDoor

namespace Go.Proofs.YtckmppkdpnhodaaGreatDoor
set_option linter.unusedVariables false
set_option linter.unusedSimpArgs false
open Go.RowKit Go.Proofs

variable {R : World → Nat → Nat → Nat → List Cm → (Nat → Prop) → Prop}

attribute [local go_sem ↓] Go.wp_at_zero Go.wp_at_succ

end Go.Proofs.YtckmppkdpnhodaaGreatDoor

namespace Go.Proofs.YtckmppkdpnhodaaGreatDoor
set_option linter.unusedVariables false
set_option linter.unusedSimpArgs false
open Go.RowKit Go.Proofs

variable {R : World → Nat → Nat → Nat → List Cm → (Nat → Prop) → Prop}

end Go.Proofs.YtckmppkdpnhodaaGreatDoor

namespace Go.Proofs.YtckmppkdpnhodaaGreatDoor
set_option linter.unusedVariables false
set_option linter.unusedSimpArgs false
open Go.RowKit Go.Proofs

section
end

/-- The text of a command. -/
def textOf (c : Cm) : ByteArray := c.k.bs ++ ⟨#[32]⟩ ++ c.word ++ (if c.k = .closed then ⟨#[32]⟩ ++ decN c.count else ByteArray.empty)

/-- What a command that was read is. -/
structure CmOk (c : Cm) : Prop where
  word : wordB c.word = true
  add : c.k = .closed → 1 ≤ c.count ∧ c.count ≤ 99
  other : c.k ≠ .closed → c.count = 0

end Go.Proofs.YtckmppkdpnhodaaGreatDoor

namespace Go.Proofs.YtckmppkdpnhodaaGreatDoor
set_option linter.unusedVariables false
set_option linter.unusedSimpArgs false
open Go.RowKit

section
variable {P : Program} (w : World)

end

end Go.Proofs.YtckmppkdpnhodaaGreatDoor

namespace Go.Proofs.YtckmppkdpnhodaaGreatDoor
set_option linter.unusedVariables false
set_option linter.unusedSimpArgs false
open Go.RowKit Go.Proofs

variable {R : World → Nat → Nat → Nat → List Cm → (Nat → Prop) → Prop}

attribute [local go_sem ↓] Go.wp_at_zero Go.wp_at_succ

end Go.Proofs.YtckmppkdpnhodaaGreatDoor
