/-
  The arguments read again; the packages' tables. The plain mathematics of the trace (what was done, what was known where it was done) and of its carts: no Go program is named here. Contracts of the small readers of packages cartellaw and cartelref: in, Ahead. Contracts of cartellaw.pick, number, place, unknown. Contract of (*book).kept where only lists of commands came out. Small laws on memory: which blocks a step may turn; append, told by its two ways; a row of cells, written in place. Contract of (*book).ops: a list of commands that came out is written full of a mark, and kept with three longer ones.
-/
import Derived.Test.YtckmppkdpnhodaaGreatDoorProg
import Derived.Deep.Modes
import Derived.Deep.Slices
import Derived.Lib.LaidTab
import Derived.OpenShut
import Derived.RowKit
import Derived.WalkKit
import Derived.Test.YtckmppkdpnhodaaGreatDoorRows
import Derived.WalkSpells
import Derived.WalkLawsBesides
import Derived.Deep.QuietTactic
import Derived.BigQuiet
import Derived.Deep.RegionHeld3
import Derived.Deep.DrawnRows
import Derived.Deep.AppendLies
import Derived.Deep.MidRow
import Derived.Deep.Draws
namespace Go.Proofs.YtckmppkdpnhodaaGreatDoor
set_option linter.unusedVariables false
set_option linter.unusedSimpArgs false
open Go.ChangeShapes Go.WideShapes Go.RowKit Go.Deep

section
variable {H : Type} {enc : TypeId × Value → H} {P : Program} {W W' : World}

theorem same_below (hb : Below W.heap.size W W') {p : MemPlace} (h : p.block < W.heap.size) : W.sameAt W' p := by
  cases p with
  | cell b off => exact hb.cell (p := ⟨b, off, none⟩) h
  | map b => exact hb.block b h

theorem kept_below (hb : Below W.heap.size W W') (may : MemPlace → Prop) : W.keptBut W' may := by
  refine ⟨hb.os, hb.output, fun i hi => ?_⟩
  rw [hb.block i hi]
  cases W.heap[i]? with
  | none => rfl
  | some o => cases o <;> simp

theorem add_block (a : Addr) (i : Nat) : (a.add i).block = a.block := by unfold Addr.add; split <;> rfl

/-- A list that came in reads again as it did, if what it holds does. -/
theorem slice_again {t e : TypeId} {n : Nat} {cs : List Value} {x : DataW H × List MemPlace} (ht : P.underlying t = some (.slice e)) (hb : Below W.heap.size W W') (hc : 0 < P.cellsOf e)
    (hel : ∀ n cs x, DataW.trod enc P W 0 (fun _ => true) true n e cs = some x → (∀ q ∈ x.2, q.block < W.heap.size) → ∃ m, DataW.trod enc P W' 0 (fun b => decide (b < W.heap.size)) true m e cs = some x)
    (h : DataW.trod enc P W 0 (fun _ => true) true n t cs = some x) (hp : ∀ q ∈ x.2, q.block < W.heap.size) :
    ∃ m, DataW.trod enc P W' 0 (fun b => decide (b < W.heap.size)) true m t cs = some x := by
  rcases open_slice ht h with ⟨rfl, rfl⟩ | ⟨a, len, cap, m, n, D, Pl, rfl, h0, hl, hm, hmm, rfl, hi⟩
  · exact ⟨1, by simp [DataW.trod, ht]⟩
  · simp only [if_true] at hmm
    subst hmm
    have key : ∀ i, i < m → ∃ cs n, W'.cells? 0 (a.add (i * P.cellsOf e)) (P.cellsOf e) = some cs ∧ DataW.trod enc P W' 0 (fun b => decide (b < W.heap.size)) true n e cs = some (D i, Pl i) := fun i him => by
      obtain ⟨cs', h1, h2⟩ := hi i him
      have hab : a.block < W.heap.size := hp (.cell a.block (a.off + 0)) (List.mem_append_left _ (MemPlace.mem_row.2 ⟨0, Nat.mul_pos (by omega) hc, rfl⟩))
      obtain ⟨k, hk⟩ := hel n cs' (D i, Pl i) h2 (fun q hq => hp q (List.mem_append_right _ (List.mem_flatMap.2 ⟨i, List.mem_range.2 him, hq⟩)))
      refine ⟨cs', k, World.cells?_carry h1 (fun q hq => ?_), hk⟩
      obtain ⟨j, -, rfl⟩ := MemPlace.mem_row.1 hq
      exact same_below hb (by show (a.add _).block < _; rw [add_block]; exact hab)
    by_cases hm0 : m = 0
    · subst hm0
      have hl0 : len = 0 := by omega
      subst hl0
      by_cases hs : a.block < W.heap.size
      · exact shut_slice_whole_cells ht h0 hl hm (by simpa using hs) D Pl key
      · simpa using shut_slice_cells (w := W') (held := true) ht h0 (Nat.le_refl 0) hm (spare := fun b => decide (b < W.heap.size)) (by simpa using hs) D Pl key
    · have hab : a.block < W.heap.size := hp (.cell a.block (a.off + 0)) (List.mem_append_left _ (MemPlace.mem_row.2 ⟨0, Nat.mul_pos (by omega) hc, rfl⟩))
      exact shut_slice_whole_cells ht h0 hl hm (by simpa using hab) D Pl key

theorem post_true {f : Func} {s : ChangeSpec} {args : Array Value} {ds gs : List (DataW H)} {before p : List MemPlace} {tb : TypeId} (hW : DataW.Whole enc P f.params.toList s.vars false W args.toList ds gs before)
    (hr : f.resultTypes = #[tb]) (htb : P.underlying tb = some .bool) (hvars : s.vars = []) (hres : (s.fn H (ds ++ gs)).results = [.lit (.bool true)]) (hargs : (s.fn H (ds ++ gs)).args = ds) (hv : (s.fn H (ds ++ gs)).vars = [])
    (hb : Below W.heap.size W W') (hag : DataW.TrodAll enc P W' 0 (fun b => decide (b < W.heap.size)) true f.params.toList args.toList ds p) : s.post enc P f false true false false W args (.bool true) W' :=
  ⟨ds, gs, before, [], p, [], hW, by rw [hres, hr]; exact trodAll_cons_mk (shut_bool htb true) trodAll_mk0, by rw [hargs]; exact hag, by rw [hvars, hv]; rfl, kept_below hb _, fun h => by cases h⟩

/-- A variable of the list, and what it reads as. -/
theorem laid_at : ∀ {l : List (String × DataW Unit)} {ps : List MemPlace}, DataW.LaidVars P W l ps → ∀ {n : String} {d : DataW Unit}, (n, d) ∈ l →
    ∃ g t cs fuel p, P.globalNamed n = some g ∧ (P.globals[g]?).map (·.type) = some t ∧ W.var? P n = some cs ∧ DataW.trod (fun _ => ()) P W 0 (fun _ => true) false fuel t cs.toList = some (d, p)
  | [], _, _, _, _, h => by cases h
  | (n', d') :: r, ps, ⟨g, t, cs, fuel, p, q, h1, h2, h3, h4, h5, h6⟩, n, d, h => by
    rcases List.mem_cons.1 h with e | e
    · cases e; exact ⟨g, t, cs, fuel, p, h1, h2, h3, h4⟩
    · exact laid_at h5 e

/-- A table of numbers of the list. -/
theorem tab_at {name : String} {k : IntKind} {zs : List Int} {l : List (String × DataW Unit)} {g : Nat} {t e : TypeId} {n : Nat} (hg : P.globalNamed name = some g) (hty : (P.globals[g]?).map (·.type) = some t) (ht : P.underlying t = some (.array n e)) (he : P.underlying e = some (.int k)) (hce : P.cellsOf e = 1) (hct : P.cellsOf t = n)
    (h : laidMet P l W) (hm : (name, Lib.tabData k zs) ∈ l) : Lib.TabIs P W name k zs := by
  obtain ⟨ps, hl, -⟩ := h
  obtain ⟨g', t', cs, fuel, p, hg', ht', hvar, hd⟩ := laid_at hl hm
  obtain rfl := Option.some.inj (hg.symm.trans hg')
  obtain rfl := Option.some.inj (hty.symm.trans ht')
  unfold Lib.TabIs
  rw [hvar, ← Lib.cells_of_tab ht he hce hct hd]

/-- A table of texts of the list: its cells. -/
theorem strs_at {name : String} {zs : List (List UInt8)} {l : List (String × DataW Unit)} {g : Nat} {t e : TypeId} {n : Nat} (hg : P.globalNamed name = some g) (hty : (P.globals[g]?).map (·.type) = some t) (ht : P.underlying t = some (.array n e)) (he : P.underlying e = some .string) (hce : P.cellsOf e = 1) (hct : P.cellsOf t = n)
    (h : laidMet P l W) (hm : (name, DataW.agg (zs.map fun z => .lit (.string z))) ∈ l) : ∀ (i : Nat) (z : List UInt8), zs[i]? = some z → W.cell? ⟨g, i, none⟩ = some (.string ⟨z.toArray⟩) := by
  obtain ⟨ps, hl, -⟩ := h
  obtain ⟨g', t', cs, fuel, p, hg', ht', hvar, hd⟩ := laid_at hl hm
  obtain rfl := Option.some.inj (hg.symm.trans hg')
  obtain rfl := Option.some.inj (hty.symm.trans ht')
  intro i z hz
  have hcell := World.var?_cell hg hvar i
  rw [hcell]
  cases fuel with
  | zero => simp [DataW.trod] at hd
  | succ fuel =>
    simp only [DataW.trod, ht, hce, hct, Nat.mul_one] at hd
    split at hd
    · rename_i hlen
      obtain ⟨xs, hmm, hx⟩ := Option.map_eq_some_iff.1 hd
      have hxs : xs.map (·.1) = zs.map fun z => (DataW.lit (.string z) : DataW Unit) := by
        have := congrArg Prod.fst hx
        simpa using this
      have hi : i < zs.length := (List.getElem?_eq_some_iff.1 hz).1
      have hxl : xs.length = n := by simpa using Lib.mapM_length hmm
      have hzl : zs.length = n := by
        have := congrArg List.length hxs
        simp at this
        omega
      obtain ⟨b, hb, hf⟩ := Lib.mapM_at hmm i i (by rw [List.getElem?_range (by omega)])
      obtain ⟨s, hc, rfl, -⟩ := DataW.trod_string he hf
      have h1 : cs[i]? = some (.string s) := by
        have := congrArg (·[0]?) hc
        simpa [List.getElem?_take, List.getElem?_drop] using this
      have h2 : (xs.map (·.1))[i]? = some (DataW.lit (.string s.data.toList) : DataW Unit) := by simp [hb]
      rw [hxs] at h2
      simp only [List.getElem?_map, hz, Option.map_some, Option.some.injEq, DataW.lit.injEq, Lit.string.injEq] at h2
      rw [h1, h2]
    · cases hd

end
end Go.Proofs.YtckmppkdpnhodaaGreatDoor

namespace Go.Proofs.YtckmppkdpnhodaaGreatDoor
set_option linter.unusedVariables false
set_option linter.unusedSimpArgs false
open Go.RowKit

/-- What a command does: five things, told by a type of five values: add closed, remove listen, apply established, revoke finWait, note closeWait. -/
abbrev Kd := Go.Tcp

def Kd.bs : Kd → ByteArray
  | .closed => ⟨#[97, 100, 100]⟩
  | .listen => ⟨#[114, 101, 109, 111, 118, 101]⟩
  | .established => ⟨#[97, 112, 112, 108, 121]⟩
  | .finWait => ⟨#[114, 101, 118, 111, 107, 101]⟩
  | .closeWait => ⟨#[110, 111, 116, 101]⟩

structure Cm where
  k : Kd
  word : ByteArray
  count : Nat

/-- A command that stands for none. -/
def cm0 : Cm := ⟨.closed, ByteArray.empty, 0⟩

structure Dn where
  org : Nat
  seq : Nat
  text : ByteArray
  c : Cm
  bef : List Nat

def dn0 : Dn := ⟨0, 0, ByteArray.empty, cm0, []⟩

def inB (xs : List Nat) (n : Nat) : Bool := decide (n ∈ xs)

def cmAt (tr : List Dn) (a : Nat) : Cm := (tr[a]?.getD dn0).c
def befAt (tr : List Dn) (a : Nat) : List Nat := (tr[a]?.getD dn0).bef

def undo (x y : Cm) : Bool :=
  (decide (x.k = .closeWait) && decide (y.k = .closeWait)) || (decide (x.word = y.word) && ((decide (x.k = .closed) && decide (y.k = .listen)) || (decide (x.k = .established) && decide (y.k = .finWait))))

def hits (tr : List Dn) (a y : Nat) : Bool := undo (cmAt tr a) (cmAt tr y) && inB (befAt tr y) a

def staysB (tr : List Dn) (known : List Nat) (a : Nat) : Bool := known.all fun y => !hits tr a y

def adds (tr : List Dn) (known : List Nat) (word : ByteArray) (a : Nat) : Nat :=
  if (cmAt tr a).k = .closed ∧ (cmAt tr a).word = word ∧ staysB tr known a = true then (cmAt tr a).count else 0

def sumOf (tr : List Dn) (known : List Nat) (word : ByteArray) (l : List Nat) : Nat := (l.map (adds tr known word)).sum

def numberN (tr : List Dn) (known : List Nat) (word : ByteArray) : Nat := min 999 (sumOf tr known word known)

def isThere (tr : List Dn) (known : List Nat) (k : Kd) (word : ByteArray) (a : Nat) : Bool :=
  decide ((cmAt tr a).k = k) && decide ((cmAt tr a).word = word) && staysB tr known a

def hasB (tr : List Dn) (known : List Nat) (k : Kd) (word : ByteArray) : Bool := known.any (isThere tr known k word)

/-- No command's count is beyond 99. -/
def Small (tr : List Dn) : Prop := ∀ d ∈ tr, d.c.count ≤ 99

theorem cmAt_of {tr : List Dn} {a : Nat} {d : Dn} (h : tr[a]? = some d) : cmAt tr a = d.c := by simp [cmAt, h]
theorem befAt_of {tr : List Dn} {a : Nat} {d : Dn} (h : tr[a]? = some d) : befAt tr a = d.bef := by simp [befAt, h]

theorem take_snoc' {α : Type} (l : List α) (k : Nat) (h : k < l.length) : l.take (k + 1) = l.take k ++ [l[k]] := by
  rw [List.take_succ_eq_append_getElem h]

theorem toList_inj {a b : ByteArray} (h : a.toList = b.toList) : a = b := by
  rw [ByteArray.toList_eq, ByteArray.toList_eq] at h
  exact ByteArray.ext (Array.toList_inj.mp h)

theorem Kd.bs_inj {a b : Kd} (h : a.bs = b.bs) : a = b := by
  cases a <;> cases b <;> first | rfl | (simp [Kd.bs] at h)

end Go.Proofs.YtckmppkdpnhodaaGreatDoor

namespace Go.Proofs.YtckmppkdpnhodaaGreatDoor
set_option linter.unusedVariables false
set_option linter.unusedSimpArgs false
open Go.RowKit

theorem ret_int {k : IntKind} {a b : Int} (h : a = b) : Ending.returned (.int k a) = .returned (.int k b) := by rw [h]
theorem ret_bool {a b : Bool} (h : a = b) : Ending.returned (.bool a) = .returned (.bool b) := by rw [h]

/-- A slice of int that reads as these numbers. -/
def NatsAt (w : World) (v : Value) (xs : List Nat) : Prop :=
  ∃ p cap, v = .slice p xs.length cap ∧ ∀ (i x : Nat), xs[i]? = some x → ∃ g, p = some ⟨g, 0, none⟩ ∧ w.cell? ⟨g, i, none⟩ = some (.int .i64 (x : Int))

theorem cell_below {w w' : World} (hb : Below w.heap.size w w') {a : Addr} {v : Value} (h : w.cell? a = some v) : w'.cell? a = some v :=
  (hb.cell (World.block_lt_of_cell? w a h)).trans h

theorem NatsAt.below {w w' : World} {v : Value} {xs : List Nat} (h : NatsAt w v xs) (hb : Below w.heap.size w w') : NatsAt w' v xs := by
  obtain ⟨p, cap, hv, hc⟩ := h
  refine ⟨p, cap, hv, fun i x hx => ?_⟩
  obtain ⟨g, hg, hcell⟩ := hc i x hx
  exact ⟨g, hg, cell_below hb hcell⟩

/-- A slice of cartelref.Done that reads as this trace. -/
def TraceAt (w : World) (v : Value) (tr : List Dn) : Prop :=
  ∃ p cap, v = .slice p tr.length cap ∧ ∀ (i : Nat) (d : Dn), tr[i]? = some d → ∃ g bv, p = some ⟨g, 0, none⟩ ∧
    w.cell? ⟨g, i * 7, none⟩ = some (.int .i64 (d.org : Int)) ∧ w.cell? ⟨g, i * 7 + 1, none⟩ = some (.int .i64 (d.seq : Int)) ∧
    w.cell? ⟨g, i * 7 + 2, none⟩ = some (.string d.text) ∧ w.cell? ⟨g, i * 7 + 3, none⟩ = some (.string d.c.k.bs) ∧
    w.cell? ⟨g, i * 7 + 4, none⟩ = some (.string d.c.word) ∧ w.cell? ⟨g, i * 7 + 5, none⟩ = some (.int .i64 (d.c.count : Int)) ∧
    w.cell? ⟨g, i * 7 + 6, none⟩ = some bv ∧ NatsAt w bv d.bef ∧ d.bef.length ≤ maxLen

theorem TraceAt.below {w w' : World} {v : Value} {tr : List Dn} (h : TraceAt w v tr) (hb : Below w.heap.size w w') : TraceAt w' v tr := by
  obtain ⟨p, cap, hv, hc⟩ := h
  refine ⟨p, cap, hv, fun i d hd => ?_⟩
  obtain ⟨g, bv, hg, c0, c1, c2, c3, c4, c5, c6, hn, hl⟩ := hc i d hd
  exact ⟨g, bv, hg, cell_below hb c0, cell_below hb c1, cell_below hb c2, cell_below hb c3, cell_below hb c4, cell_below hb c5, cell_below hb c6, hn.below hb, hl⟩

end Go.Proofs.YtckmppkdpnhodaaGreatDoor

namespace Go.Proofs.YtckmppkdpnhodaaGreatDoor
set_option linter.unusedVariables false
set_option linter.unusedSimpArgs false
open Go.RowKit

def pickN (c : Int) (n : Int) : Nat := ((if c < 0 then -(c + 1) else c) % n).toNat

theorem pickN_lt {c n : Int} (hn : 0 < n) : (pickN c n : Int) < n := by
  unfold pickN
  generalize (if c < 0 then -(c + 1) else c) = x
  have h1 := Int.emod_nonneg x (show n ≠ 0 by omega)
  have h2 := Int.emod_lt_of_pos x hn
  omega

theorem pickN_int {c n : Int} (hn : 0 < n) : (pickN c n : Int) = (if c < 0 then -(c + 1) else c) % n := by
  unfold pickN
  have h1 := Int.emod_nonneg (if c < 0 then -(c + 1) else c) (show n ≠ 0 by omega)
  omega

set_option maxHeartbeats 800000 in
theorem place_at (wb : Nat) (tv : Value) (tr : List Dn) (p : Nat) (w : World) (h2 : w.cell? ⟨wb, 2, none⟩ = some tv) (hT : TraceAt w tv tr) (hl : tr.length ≤ maxLen) (hp : p < tr.length)
    (hno : ∀ j (h : j < tr.length), j < p → ¬ (tr[j].org = tr[p].org ∧ tr[j].seq = tr[p].seq)) :
    Calls Tryz.prog 65 #[.pointer (some ⟨wb, 0, none⟩), .agg #[.int .i64 (tr[p].org : Int), .int .i64 (tr[p].seq : Int), .string tr[p].text]] w fun e w' => e = .returned (.int .i64 (p : Int)) ∧ Below w.heap.size w w' := by
  have hb2 := World.block_lt_of_cell? w _ h2
  generalize hO : tr[p].org = O at *
  generalize hS : tr[p].seq = S at *
  generalize hX : tr[p].text = X at *
  obtain ⟨q, cap, rfl, hc⟩ := hT
  unfold maxLen at hl
  have HO : Hid (tr[p].org = O ∧ tr[p].seq = S ∧ tr[p].text = X) := ⟨hO, hS, hX⟩
  have HN : Hid (∀ j (h : j < tr.length), j < p → ¬ (tr[j].org = O ∧ tr[j].seq = S)) := hno
  clear hO hS hX hno
  go_enter Tryz.func65, Tryz.ntmps65
  go_wp2
  go_loopw [5] (fun i wr => ∃ k n : Nat, k ≤ p ∧ i = .int .i64 k ∧ wr = (w.alloc (.cells #[.int .i64 (O : Int), .int .i64 (S : Int), .string X] 68)).drewN n) (fun i _ => p + 1 - (intOf i).toNat)
  case atStart => exact ⟨0, 0, Nat.zero_le _, rfl, rfl⟩
  case round =>
    obtain ⟨k, nd, hk, rfl, rfl⟩ := hrel
    have hlt : k < tr.length := by omega
    obtain ⟨g, bv, rfl, c0, c1, c2, -, -, -, -, -, -⟩ := hc k tr[k] (List.getElem?_eq_getElem hlt)
    have hbg := World.block_lt_of_cell? w _ c0
    have k0 : (0 : Int) ≤ (k : Int) := by omega
    have k1 : (k : Int) < (tr.length : Int) := by omega
    have HK : Hid (k < p → ¬ (tr[k].org = O ∧ tr[k].seq = S)) := HN.out k hlt
    clear hc
    by_cases he : k = p
    · subst he
      rw [HO.out.1] at c0
      rw [HO.out.2.1] at c1
      rw [HO.out.2.2] at c2
      go_wp2
      go_quiet ((fail))
      go_wp2
      go_ret
      exact ⟨rfl, below_drewN (below_drewN ((Below.refl _ _).alloc (Nat.le_refl _) _) _) _⟩
    · have hkp : k < p := by omega
      have HK2 := HK.out hkp
      generalize tr[k].org = O' at *
      generalize tr[k].seq = S' at *
      generalize tr[k].text = X' at *
      by_cases hoo : O' = O
      · have hss : ¬ S' = S := fun e => HK2 ⟨hoo, e⟩
        subst hoo
        have b1 : ((S' : Int) == (S : Int)) = false := by rw [beq_eq_false_iff_ne]; omega
        have b2 : ¬ (S' : Int) = (S : Int) := by omega
        clear hss HK2
        go_wp2
        go_quiet ((fail))
        go_wp2
        go_roundw
        case rel => exact ⟨k + 1, _, by omega, by go_num, rfl⟩
        case measure => simp [intOf]; omega
      · have b1 : ((O' : Int) == (O : Int)) = false := by rw [beq_eq_false_iff_ne]; omega
        have b2 : ¬ (O' : Int) = (O : Int) := by omega
        clear hoo HK2
        go_wp2
        go_quiet ((fail))
        go_wp2
        go_roundw
        case rel => exact ⟨k + 1, _, by omega, by go_num, rfl⟩
        case measure => simp [intOf]; omega

/-- A slice of slices of int that reads as these lists. -/
def ListsAt (w : World) (v : Value) (xss : List (List Nat)) : Prop :=
  ∃ p cap, v = .slice p xss.length cap ∧ ∀ (i : Nat) (xs : List Nat), xss[i]? = some xs → ∃ g u, p = some ⟨g, 0, none⟩ ∧ w.cell? ⟨g, i, none⟩ = some u ∧ NatsAt w u xs

theorem ListsAt.below {w w' : World} {v : Value} {xss : List (List Nat)} (h : ListsAt w v xss) (hb : Below w.heap.size w w') : ListsAt w' v xss := by
  obtain ⟨p, cap, hv, hc⟩ := h
  refine ⟨p, cap, hv, fun i x hx => ?_⟩
  obtain ⟨g, u, hg, hcell, hn⟩ := hc i x hx
  exact ⟨g, u, hg, cell_below hb hcell, hn.below hb⟩

end Go.Proofs.YtckmppkdpnhodaaGreatDoor

namespace Go.Proofs.YtckmppkdpnhodaaGreatDoor
set_option linter.unusedVariables false
set_option linter.unusedSimpArgs false
open Go.RowKit

/-- A list of commands that its owner has written full of the mark k: m of them. -/
def MarksAt (w : World) (u : Value) (m : Nat) (k : Int) : Prop :=
  ∃ p cap, u = .slice p m cap ∧ ∀ i, i < m → ∃ g, p = some ⟨g, 0, none⟩ ∧ w.cell? ⟨g, i * 3, none⟩ = some (.int .i64 k) ∧ w.cell? ⟨g, i * 3 + 1, none⟩ = some (.int .i64 k) ∧ w.cell? ⟨g, i * 3 + 2, none⟩ = some (.string ⟨#[109, 105, 110, 101]⟩)

theorem MarksAt.below {w w' : World} {u : Value} {m : Nat} {k : Int} (h : MarksAt w u m k) (hb : Below w.heap.size w w') : MarksAt w' u m k := by
  obtain ⟨p, cap, hv, hc⟩ := h
  refine ⟨p, cap, hv, fun i hi => ?_⟩
  obtain ⟨g, hg, c0, c1, c2⟩ := hc i hi
  exact ⟨g, hg, cell_below hb c0, cell_below hb c1, cell_below hb c2⟩

/-- The lists that came out, and their marks. -/
def OsAt (w : World) (v : Value) (bk : List (Nat × Int)) : Prop :=
  ∃ p cap, v = .slice p bk.length cap ∧ ∀ (i : Nat) (e : Nat × Int), bk[i]? = some e → ∃ g u, p = some ⟨g, 0, none⟩ ∧ w.cell? ⟨g, i, none⟩ = some u ∧ MarksAt w u e.1 e.2
def KoAt (w : World) (v : Value) (bk : List (Nat × Int)) : Prop :=
  ∃ p cap, v = .slice p bk.length cap ∧ ∀ (i : Nat) (e : Nat × Int), bk[i]? = some e → ∃ g, p = some ⟨g, 0, none⟩ ∧ w.cell? ⟨g, i, none⟩ = some (.int .i64 e.2)

theorem OsAt.below {w w' : World} {v : Value} {bk : List (Nat × Int)} (h : OsAt w v bk) (hb : Below w.heap.size w w') : OsAt w' v bk := by
  obtain ⟨p, cap, hv, hc⟩ := h
  refine ⟨p, cap, hv, fun i x hx => ?_⟩
  obtain ⟨g, u, hg, hcell, hn⟩ := hc i x hx
  exact ⟨g, u, hg, cell_below hb hcell, hn.below hb⟩
theorem KoAt.below {w w' : World} {v : Value} {bk : List (Nat × Int)} (h : KoAt w v bk) (hb : Below w.heap.size w w') : KoAt w' v bk := by
  obtain ⟨p, cap, hv, hc⟩ := h
  refine ⟨p, cap, hv, fun i x hx => ?_⟩
  obtain ⟨g, hg, hcell⟩ := hc i x hx
  exact ⟨g, hg, cell_below hb hcell⟩

attribute [local go_sem ↓] Go.wp_at_zero Go.wp_at_succ

end Go.Proofs.YtckmppkdpnhodaaGreatDoor

namespace Go.Proofs.YtckmppkdpnhodaaGreatDoor
set_option linter.unusedVariables false
set_option linter.unusedSimpArgs false
open Go.RowKit

/-- Of the blocks that were there none has turned but those of S. -/
structure Upd (S : List (Option Nat)) (w w' : World) : Prop where
  os : w'.os = w.os
  tape : w'.tape = w.tape
  output : w'.output = w.output
  size : w.heap.size ≤ w'.heap.size
  block : ∀ k, k < w.heap.size → some k ∉ S → w'.heap[k]? = w.heap[k]?

namespace Upd
variable {S T : List (Option Nat)} {a b c w w' : World}

theorem refl (S : List (Option Nat)) (w : World) : Upd S w w := ⟨rfl, rfl, rfl, Nat.le_refl _, fun _ _ _ => rfl⟩

/-- Two steps: what the second turns is among S, or is new. -/
theorem trans (h : Upd S a b) (k : Upd T b c) (hT : ∀ i, some i ∈ T → some i ∈ S ∨ a.heap.size ≤ i) : Upd S a c :=
  ⟨k.os.trans h.os, k.tape.trans h.tape, k.output.trans h.output, Nat.le_trans h.size k.size, fun i hi hS => by
    rw [k.block i (Nat.lt_of_lt_of_le hi h.size) (fun e => by rcases hT i e with h1 | h1; exact hS h1; omega), h.block i hi hS]⟩

theorem below (h : Upd S a b) (k : Below b.heap.size b c) : Upd S a c :=
  ⟨k.os.trans h.os, k.tape.trans h.tape, k.output.trans h.output, Nat.le_trans h.size k.size, fun i hi hS => by
    rw [k.block i (Nat.lt_of_lt_of_le hi h.size), h.block i hi hS]⟩

theorem of_below (k : Below a.heap.size a b) : Upd S a b := (refl S a).below k

theorem drew (h : Upd S a b) : Upd S a b.drew := ⟨h.os, h.tape, h.output, h.size, h.block⟩
theorem drewN (h : Upd S a b) (n : Nat) : Upd S a (b.drewN n) := ⟨h.os, h.tape, h.output, h.size, h.block⟩

theorem alloc (h : Upd S a b) (o : Obj) : Upd S a (b.alloc o) := h.below ((Below.refl _ _).alloc (Nat.le_refl _) _)

theorem setCell (h : Upd S a b) {p : Addr} (hp : some p.block ∈ S ∨ a.heap.size ≤ p.block) (v : Value) : Upd S a (b.setCell p v) :=
  ⟨h.os, h.tape, h.output, by have := h.size; simpa [World.setCell] using this, fun k hk hS => by
    rw [Below.heap_setCell _ _ _ _ (fun e => by subst e; rcases hp with hp | hp; exact hS hp; omega), h.block k hk hS]⟩

theorem grown {row : Option Nat} (h : Upd S a b) (hg : b.grownBy c row) (hr : ∀ k, row = some k → some k ∈ S ∨ a.heap.size ≤ k) : Upd S a c :=
  ⟨hg.os.trans h.os, hg.tape.trans h.tape, hg.output.trans h.output, Nat.le_trans h.size hg.size, fun k hk hS => by
    rw [hg.block k (Nat.lt_of_lt_of_le hk h.size) (fun e => by rcases hr k e.symm with h1 | h1; exact hS h1; omega), h.block k hk hS]⟩

theorem mono (h : Upd S a b) (hST : ∀ i, some i ∈ S → some i ∈ T) : Upd T a b :=
  ⟨h.os, h.tape, h.output, h.size, fun k hk hT => h.block k hk fun e => hT (hST k e)⟩

theorem cell (h : Upd S a b) {p : Addr} {v : Value} (hc : a.cell? p = some v) (hp : some p.block ∉ S) : b.cell? p = some v :=
  (World.cell?_of_block (h.block p.block (World.block_lt_of_cell? a p hc) hp)).trans hc

theorem owns (h : Upd S a b) {base : Nat} {e : TypeId} {size : Nat} {v : Value} {n : Nat} {xs : List Value} (ho : a.ownsRow base e size v n xs) (hv : ∀ k, v.ownBlock = some k → some k ∉ S) : b.ownsRow base e size v n xs := by
  refine ⟨ho.1, ?_⟩
  rcases ho.2 with hn | ⟨g, cap, cur, rfl, hb, hg, rest⟩
  · exact .inl hn
  · exact .inr ⟨g, cap, cur, rfl, hb, by rw [h.block g (Array.getElem?_eq_some_iff.1 hg).1 (hv g rfl)]; exact hg, rest⟩
end Upd

/-- The two ways of an append onto v: in place (at g), or in the new row H, whereby nothing old turns. -/
def TwoWays (w w' : World) (v : Value) (n g cap H : Nat) : Prop :=
  (v = .slice (some ⟨g, 0, none⟩) n cap ∧ w.grownBy w' (some g)) ∨ (g = H ∧ Below w.heap.size w w')

theorem TwoWays.upd {w w' : World} {v : Value} {n g cap H : Nat} (h : TwoWays w w' v n g cap H) : Upd [v.ownBlock] w w' := by
  rcases h with ⟨rfl, h⟩ | ⟨_, h⟩
  · exact (Upd.refl _ _).grown h fun k hk => .inl (by simp [Value.ownBlock, hk])
  · exact Upd.of_below h

theorem TwoWays.at {w w' : World} {v : Value} {n g cap H : Nat} (h : TwoWays w w' v n g cap H) : v.ownBlock = some g ∨ g = H := by
  rcases h with ⟨rfl, _⟩ | ⟨h, _⟩
  · exact .inl rfl
  · exact .inr h

section
variable {P : Program} (w : World)

end

theorem heap_setCell_same {w : World} {b o : Nat} {c : Array Value} {e : TypeId} {fr : Nat × Nat} (h : w.heap[b]? = some (.cells c e fr)) (v : Value) : (w.setCell ⟨b, o, none⟩ v).heap[b]? = some (.cells (c.setIfInBounds o v) e fr) := by
  simp [World.setCell, Array.getElem?_modify, h]

theorem cell_of_heap {w : World} {b : Nat} {c : Array Value} {e : TypeId} {fr : Nat × Nat} (h : w.heap[b]? = some (.cells c e fr)) (o : Nat) : w.cell? ⟨b, o, none⟩ = c[o]? := by
  simp [World.cell?, h]

theorem frozen_of_heap {w : World} {b : Nat} {c : Array Value} {e : TypeId} (h : w.heap[b]? = some (.cells c e (0, 0))) (o : Nat) : w.frozen? ⟨b, o, none⟩ = false := by
  simp [World.frozen?, h]

theorem owns_base0 {w : World} {base : Nat} {e : TypeId} {size : Nat} {v : Value} {n : Nat} {xs : List Value} (h : w.ownsRow base e size v n xs) : w.ownsRow 0 e size v n xs := by
  refine ⟨h.1, ?_⟩
  rcases h.2 with hn | ⟨g, cap, cur, hv, _, rest⟩
  · exact .inl hn
  · exact .inr ⟨g, cap, cur, hv, Nat.zero_le _, rest⟩

theorem owns_setCell_other {w : World} {base : Nat} {e : TypeId} {size : Nat} {v : Value} {n : Nat} {xs : List Value} (h : w.ownsRow base e size v n xs) {a : Addr} (ha : ∀ k, v.ownBlock = some k → k ≠ a.block) (u : Value) : (w.setCell a u).ownsRow base e size v n xs := by
  refine ⟨h.1, ?_⟩
  rcases h.2 with hn | ⟨g, cap, cur, rfl, hb, hg, rest⟩
  · exact .inl hn
  · exact .inr ⟨g, cap, cur, rfl, hb, by rw [Below.heap_setCell _ _ _ _ (ha g rfl)]; exact hg, rest⟩

end Go.Proofs.YtckmppkdpnhodaaGreatDoor

namespace Go.Proofs.YtckmppkdpnhodaaGreatDoor
set_option linter.unusedVariables false
set_option linter.unusedSimpArgs false
open Go.RowKit

def mk3 (k : Int) : List Value := [.int .i64 k, .int .i64 k, .string ⟨#[109, 105, 110, 101]⟩]
def marks (k : Int) : Nat → List Value
  | 0 => []
  | n + 1 => marks k n ++ mk3 k

theorem marks_length (k : Int) (n : Nat) : (marks k n).length = n * 3 := by
  induction n with
  | zero => rfl
  | succ n ih => simp [marks, mk3, ih]; omega

theorem marks_add (k : Int) (n m : Nat) : marks k (n + m) = marks k n ++ marks k m := by
  induction m with
  | zero => simp [marks]
  | succ m ih => rw [← Nat.add_assoc]; simp [marks, ih]

theorem marks_get (k : Int) {n i : Nat} (h : i < n) : (marks k n)[i * 3]? = some (.int .i64 k) ∧ (marks k n)[i * 3 + 1]? = some (.int .i64 k) ∧ (marks k n)[i * 3 + 2]? = some (.string ⟨#[109, 105, 110, 101]⟩) := by
  obtain ⟨m, rfl⟩ : ∃ m, n = i + (1 + m) := ⟨n - i - 1, by omega⟩
  rw [marks_add, marks_add]
  have hl := marks_length k i
  have e1 : marks k 1 = mk3 k := by simp [marks]
  rw [e1]
  refine ⟨?_, ?_, ?_⟩
  · rw [List.getElem?_append_right (by omega)]; simp [hl, mk3]
  · rw [List.getElem?_append_right (by omega)]; simp [hl, mk3]
  · rw [List.getElem?_append_right (by omega)]; simp [hl, mk3]

theorem MarksAt.of_owns {w : World} {base : Nat} {e : TypeId} {g N M cap cap' : Nat} {k : Int} (h : w.ownsRow base e 3 (.slice (some ⟨g, 0, none⟩) N cap) N (marks k N)) (hM : M ≤ N) : MarksAt w (.slice (some ⟨g, 0, none⟩) M cap') M k := by
  refine ⟨_, _, rfl, fun i hi => ⟨g, rfl, ?_⟩⟩
  obtain ⟨m0, m1, m2⟩ := marks_get k (show i < N by omega)
  have c := h.cells (g := g) rfl
  have c0 := c _ _ m0
  have c1 := c _ _ m1
  have c2 := c _ _ m2
  rw [Addr.add_mid, Nat.zero_add] at c0 c1 c2
  exact ⟨c0, c1, c2⟩

theorem MarksAt.upd {w w' : World} {S : List (Option Nat)} {u : Value} {M : Nat} {k : Int} (h : MarksAt w u M k) (hu : Upd S w w') (hS : ∀ b, u.ownBlock = some b → some b ∉ S) : MarksAt w' u M k := by
  obtain ⟨p, capu, rfl, hc⟩ := h
  refine ⟨_, _, rfl, fun i hi => ?_⟩
  obtain ⟨g, rfl, c0, c1, c2⟩ := hc i hi
  exact ⟨g, rfl, hu.cell c0 (hS g rfl), hu.cell c1 (hS g rfl), hu.cell c2 (hS g rfl)⟩

/-- What ops goes on reading: the mark in its block B, and the two lists of the book; what has turned since w. -/
structure Kp (w : World) (S : List (Option Nat)) (B wb : Nat) (k : Int) (osv kov : Value) (W : World) : Prop where
  m0 : W.cell? ⟨B, 0, none⟩ = some (.int .i64 k)
  m1 : W.cell? ⟨B, 1, none⟩ = some (.int .i64 k)
  m2 : W.cell? ⟨B, 2, none⟩ = some (.string ⟨#[109, 105, 110, 101]⟩)
  c10 : W.cell? ⟨wb, 10, none⟩ = some osv
  c11 : W.cell? ⟨wb, 11, none⟩ = some kov
  f10 : W.frozen? ⟨wb, 10, none⟩ = false
  f11 : W.frozen? ⟨wb, 11, none⟩ = false
  lt : B < W.heap.size
  up : Upd S w W

theorem Kp.step {w : World} {B wb : Nat} {k : Int} {osv kov : Value} {W W' : World} {o : Obj} {S T : List (Option Nat)} (h : Kp w S B wb k osv kov W) (hu : Upd T (W.alloc o) W') (hB : some B ∉ T) (hw : some wb ∉ T) (hST : ∀ i, some i ∈ T → some i ∈ S ∨ w.heap.size ≤ i) : Kp w S B wb k osv kov W' := by
  have hwl : wb < W.heap.size := World.block_lt_of_cell? W _ h.c10
  have hl : ∀ b, b < W.heap.size → (W.alloc o).heap[b]? = W.heap[b]? := fun b hb => Below.heap_alloc W o b hb
  have hc : ∀ b j v, some b ∉ T → W.cell? ⟨b, j, none⟩ = some v → W'.cell? ⟨b, j, none⟩ = some v := fun b j v hS hv =>
    hu.cell ((World.cell?_of_block (a := ⟨b, j, none⟩) (hl b (World.block_lt_of_cell? W _ hv))).trans hv) hS
  have hf : ∀ j, W'.frozen? ⟨wb, j, none⟩ = W.frozen? ⟨wb, j, none⟩ := fun j => by
    rw [World.frozen?_of_block (a := ⟨wb, j, none⟩) (hu.block wb (by simp; omega) hw), World.frozen?_of_block (a := ⟨wb, j, none⟩) (hl wb hwl)]
  refine ⟨hc _ _ _ hB h.m0, hc _ _ _ hB h.m1, hc _ _ _ hB h.m2, hc _ _ _ hw h.c10, hc _ _ _ hw h.c11, (hf 10).trans h.f10, (hf 11).trans h.f11, ?_, (h.up.alloc o).trans hu hST⟩
  have h1 := hu.size
  have h2 := h.lt
  rw [World.size_alloc] at h1
  omega

theorem Tryz.info_op : (Tryz.prog.info? 68).map (fun i => (i.zero, i.size, i.bytes)) = some (some (.agg #[.int .i64 0, .int .i64 0, .string ByteArray.empty]), 3, 32) := by kernel_rfl
end Go.Proofs.YtckmppkdpnhodaaGreatDoor
