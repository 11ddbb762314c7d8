/-
  The arguments read again; the packages' tables. The plain mathematics of the trace (what was done, what was known where it was done) and of its carts: no Go program is named here. Contracts of the small readers of packages cartellaw and cartelref: in, Ahead.
-/
import Derived.Test.YtckmppkdpnhodaaGreatDoorProg
import Derived.Deep.Modes
import Derived.Deep.Slices
import Derived.Lib.LaidTab
import Derived.OpenShut
import Derived.RowKit
import Derived.WalkKit
import Derived.Test.YtckmppkdpnhodaaGreatDoorRows
import Derived.WalkSpells
import Derived.WalkLawsBesides
namespace Go.Proofs.YtckmppkdpnhodaaGreatDoor
set_option linter.unusedVariables false
set_option linter.unusedSimpArgs false
open Go.ChangeShapes Go.WideShapes Go.RowKit Go.Deep

section
variable {H : Type} {enc : TypeId × Value → H} {P : Program} {W W' : World}

theorem same_below (hb : Below W.heap.size W W') {p : MemPlace} (h : p.block < W.heap.size) : W.sameAt W' p := by
  cases p with
  | cell b off => exact hb.cell (p := ⟨b, off, none⟩) h
  | map b => exact hb.block b h

theorem kept_below (hb : Below W.heap.size W W') (may : MemPlace → Prop) : W.keptBut W' may := by
  refine ⟨hb.os, hb.output, fun i hi => ?_⟩
  rw [hb.block i hi]
  cases W.heap[i]? with
  | none => rfl
  | some o => cases o <;> simp

theorem add_block (a : Addr) (i : Nat) : (a.add i).block = a.block := by unfold Addr.add; split <;> rfl

/-- A list that came in reads again as it did, if what it holds does. -/
theorem slice_again {t e : TypeId} {n : Nat} {cs : List Value} {x : DataW H × List MemPlace} (ht : P.underlying t = some (.slice e)) (hb : Below W.heap.size W W') (hc : 0 < P.cellsOf e)
    (hel : ∀ n cs x, DataW.trod enc P W 0 (fun _ => true) true n e cs = some x → (∀ q ∈ x.2, q.block < W.heap.size) → ∃ m, DataW.trod enc P W' 0 (fun b => decide (b < W.heap.size)) true m e cs = some x)
    (h : DataW.trod enc P W 0 (fun _ => true) true n t cs = some x) (hp : ∀ q ∈ x.2, q.block < W.heap.size) :
    ∃ m, DataW.trod enc P W' 0 (fun b => decide (b < W.heap.size)) true m t cs = some x := by
  rcases open_slice ht h with ⟨rfl, rfl⟩ | ⟨a, len, cap, m, n, D, Pl, rfl, h0, hl, hm, hmm, rfl, hi⟩
  · exact ⟨1, by simp [DataW.trod, ht]⟩
  · simp only [if_true] at hmm
    subst hmm
    have key : ∀ i, i < m → ∃ cs n, W'.cells? 0 (a.add (i * P.cellsOf e)) (P.cellsOf e) = some cs ∧ DataW.trod enc P W' 0 (fun b => decide (b < W.heap.size)) true n e cs = some (D i, Pl i) := fun i him => by
      obtain ⟨cs', h1, h2⟩ := hi i him
      have hab : a.block < W.heap.size := hp (.cell a.block (a.off + 0)) (List.mem_append_left _ (MemPlace.mem_row.2 ⟨0, Nat.mul_pos (by omega) hc, rfl⟩))
      obtain ⟨k, hk⟩ := hel n cs' (D i, Pl i) h2 (fun q hq => hp q (List.mem_append_right _ (List.mem_flatMap.2 ⟨i, List.mem_range.2 him, hq⟩)))
      refine ⟨cs', k, World.cells?_carry h1 (fun q hq => ?_), hk⟩
      obtain ⟨j, -, rfl⟩ := MemPlace.mem_row.1 hq
      exact same_below hb (by show (a.add _).block < _; rw [add_block]; exact hab)
    by_cases hm0 : m = 0
    · subst hm0
      have hl0 : len = 0 := by omega
      subst hl0
      by_cases hs : a.block < W.heap.size
      · exact shut_slice_whole_cells ht h0 hl hm (by simpa using hs) D Pl key
      · simpa using shut_slice_cells (w := W') (held := true) ht h0 (Nat.le_refl 0) hm (spare := fun b => decide (b < W.heap.size)) (by simpa using hs) D Pl key
    · have hab : a.block < W.heap.size := hp (.cell a.block (a.off + 0)) (List.mem_append_left _ (MemPlace.mem_row.2 ⟨0, Nat.mul_pos (by omega) hc, rfl⟩))
      exact shut_slice_whole_cells ht h0 hl hm (by simpa using hab) D Pl key

theorem post_true {f : Func} {s : ChangeSpec} {args : Array Value} {ds gs : List (DataW H)} {before p : List MemPlace} {tb : TypeId} (hW : DataW.Whole enc P f.params.toList s.vars false W args.toList ds gs before)
    (hr : f.resultTypes = #[tb]) (htb : P.underlying tb = some .bool) (hvars : s.vars = []) (hres : (s.fn H (ds ++ gs)).results = [.lit (.bool true)]) (hargs : (s.fn H (ds ++ gs)).args = ds) (hv : (s.fn H (ds ++ gs)).vars = [])
    (hb : Below W.heap.size W W') (hag : DataW.TrodAll enc P W' 0 (fun b => decide (b < W.heap.size)) true f.params.toList args.toList ds p) : s.post enc P f false true false false W args (.bool true) W' :=
  ⟨ds, gs, before, [], p, [], hW, by rw [hres, hr]; exact trodAll_cons_mk (shut_bool htb true) trodAll_mk0, by rw [hargs]; exact hag, by rw [hvars, hv]; rfl, kept_below hb _, fun h => by cases h⟩

/-- A variable of the list, and what it reads as. -/
theorem laid_at : ∀ {l : List (String × DataW Unit)} {ps : List MemPlace}, DataW.LaidVars P W l ps → ∀ {n : String} {d : DataW Unit}, (n, d) ∈ l →
    ∃ g t cs fuel p, P.globalNamed n = some g ∧ (P.globals[g]?).map (·.type) = some t ∧ W.var? P n = some cs ∧ DataW.trod (fun _ => ()) P W 0 (fun _ => true) false fuel t cs.toList = some (d, p)
  | [], _, _, _, _, h => by cases h
  | (n', d') :: r, ps, ⟨g, t, cs, fuel, p, q, h1, h2, h3, h4, h5, h6⟩, n, d, h => by
    rcases List.mem_cons.1 h with e | e
    · cases e; exact ⟨g, t, cs, fuel, p, h1, h2, h3, h4⟩
    · exact laid_at h5 e

/-- A table of numbers of the list. -/
theorem tab_at {name : String} {k : IntKind} {zs : List Int} {l : List (String × DataW Unit)} {g : Nat} {t e : TypeId} {n : Nat} (hg : P.globalNamed name = some g) (hty : (P.globals[g]?).map (·.type) = some t) (ht : P.underlying t = some (.array n e)) (he : P.underlying e = some (.int k)) (hce : P.cellsOf e = 1) (hct : P.cellsOf t = n)
    (h : laidMet P l W) (hm : (name, Lib.tabData k zs) ∈ l) : Lib.TabIs P W name k zs := by
  obtain ⟨ps, hl, -⟩ := h
  obtain ⟨g', t', cs, fuel, p, hg', ht', hvar, hd⟩ := laid_at hl hm
  obtain rfl := Option.some.inj (hg.symm.trans hg')
  obtain rfl := Option.some.inj (hty.symm.trans ht')
  unfold Lib.TabIs
  rw [hvar, ← Lib.cells_of_tab ht he hce hct hd]

/-- A table of texts of the list: its cells. -/
theorem strs_at {name : String} {zs : List (List UInt8)} {l : List (String × DataW Unit)} {g : Nat} {t e : TypeId} {n : Nat} (hg : P.globalNamed name = some g) (hty : (P.globals[g]?).map (·.type) = some t) (ht : P.underlying t = some (.array n e)) (he : P.underlying e = some .string) (hce : P.cellsOf e = 1) (hct : P.cellsOf t = n)
    (h : laidMet P l W) (hm : (name, DataW.agg (zs.map fun z => .lit (.string z))) ∈ l) : ∀ (i : Nat) (z : List UInt8), zs[i]? = some z → W.cell? ⟨g, i, none⟩ = some (.string ⟨z.toArray⟩) := by
  obtain ⟨ps, hl, -⟩ := h
  obtain ⟨g', t', cs, fuel, p, hg', ht', hvar, hd⟩ := laid_at hl hm
  obtain rfl := Option.some.inj (hg.symm.trans hg')
  obtain rfl := Option.some.inj (hty.symm.trans ht')
  intro i z hz
  have hcell := World.var?_cell hg hvar i
  rw [hcell]
  cases fuel with
  | zero => simp [DataW.trod] at hd
  | succ fuel =>
    simp only [DataW.trod, ht, hce, hct, Nat.mul_one] at hd
    split at hd
    · rename_i hlen
      obtain ⟨xs, hmm, hx⟩ := Option.map_eq_some_iff.1 hd
      have hxs : xs.map (·.1) = zs.map fun z => (DataW.lit (.string z) : DataW Unit) := by
        have := congrArg Prod.fst hx
        simpa using this
      have hi : i < zs.length := (List.getElem?_eq_some_iff.1 hz).1
      have hxl : xs.length = n := by simpa using Lib.mapM_length hmm
      have hzl : zs.length = n := by
        have := congrArg List.length hxs
        simp at this
        omega
      obtain ⟨b, hb, hf⟩ := Lib.mapM_at hmm i i (by rw [List.getElem?_range (by omega)])
      obtain ⟨s, hc, rfl, -⟩ := DataW.trod_string he hf
      have h1 : cs[i]? = some (.string s) := by
        have := congrArg (·[0]?) hc
        simpa [List.getElem?_take, List.getElem?_drop] using this
      have h2 : (xs.map (·.1))[i]? = some (DataW.lit (.string s.data.toList) : DataW Unit) := by simp [hb]
      rw [hxs] at h2
      simp only [List.getElem?_map, hz, Option.map_some, Option.some.injEq, DataW.lit.injEq, Lit.string.injEq] at h2
      rw [h1, h2]
    · cases hd

end
end Go.Proofs.YtckmppkdpnhodaaGreatDoor

namespace Go.Proofs.YtckmppkdpnhodaaGreatDoor
set_option linter.unusedVariables false
set_option linter.unusedSimpArgs false
open Go.RowKit

/-- What a command does: five things, told by a type of five values: add closed, remove listen, apply established, revoke finWait, note closeWait. -/
abbrev Kd := Go.Tcp

def Kd.bs : Kd → ByteArray
  | .closed => ⟨#[97, 100, 100]⟩
  | .listen => ⟨#[114, 101, 109, 111, 118, 101]⟩
  | .established => ⟨#[97, 112, 112, 108, 121]⟩
  | .finWait => ⟨#[114, 101, 118, 111, 107, 101]⟩
  | .closeWait => ⟨#[110, 111, 116, 101]⟩

structure Cm where
  k : Kd
  word : ByteArray
  count : Nat

/-- A command that stands for none. -/
def cm0 : Cm := ⟨.closed, ByteArray.empty, 0⟩

structure Dn where
  org : Nat
  seq : Nat
  text : ByteArray
  c : Cm
  bef : List Nat

def dn0 : Dn := ⟨0, 0, ByteArray.empty, cm0, []⟩

def inB (xs : List Nat) (n : Nat) : Bool := decide (n ∈ xs)

def cmAt (tr : List Dn) (a : Nat) : Cm := (tr[a]?.getD dn0).c
def befAt (tr : List Dn) (a : Nat) : List Nat := (tr[a]?.getD dn0).bef

def undo (x y : Cm) : Bool :=
  (decide (x.k = .closeWait) && decide (y.k = .closeWait)) || (decide (x.word = y.word) && ((decide (x.k = .closed) && decide (y.k = .listen)) || (decide (x.k = .established) && decide (y.k = .finWait))))

def hits (tr : List Dn) (a y : Nat) : Bool := undo (cmAt tr a) (cmAt tr y) && inB (befAt tr y) a

def staysB (tr : List Dn) (known : List Nat) (a : Nat) : Bool := known.all fun y => !hits tr a y

def adds (tr : List Dn) (known : List Nat) (word : ByteArray) (a : Nat) : Nat :=
  if (cmAt tr a).k = .closed ∧ (cmAt tr a).word = word ∧ staysB tr known a = true then (cmAt tr a).count else 0

def sumOf (tr : List Dn) (known : List Nat) (word : ByteArray) (l : List Nat) : Nat := (l.map (adds tr known word)).sum

def numberN (tr : List Dn) (known : List Nat) (word : ByteArray) : Nat := min 999 (sumOf tr known word known)

def isThere (tr : List Dn) (known : List Nat) (k : Kd) (word : ByteArray) (a : Nat) : Bool :=
  decide ((cmAt tr a).k = k) && decide ((cmAt tr a).word = word) && staysB tr known a

def hasB (tr : List Dn) (known : List Nat) (k : Kd) (word : ByteArray) : Bool := known.any (isThere tr known k word)

/-- No command's count is beyond 99. -/
def Small (tr : List Dn) : Prop := ∀ d ∈ tr, d.c.count ≤ 99

theorem cmAt_of {tr : List Dn} {a : Nat} {d : Dn} (h : tr[a]? = some d) : cmAt tr a = d.c := by simp [cmAt, h]
theorem befAt_of {tr : List Dn} {a : Nat} {d : Dn} (h : tr[a]? = some d) : befAt tr a = d.bef := by simp [befAt, h]

theorem take_snoc' {α : Type} (l : List α) (k : Nat) (h : k < l.length) : l.take (k + 1) = l.take k ++ [l[k]] := by
  rw [List.take_succ_eq_append_getElem h]

theorem inB_true {xs : List Nat} {n : Nat} (h : n ∈ xs) : inB xs n = true := by simp [inB, h]

theorem sumOf_snoc (tr : List Dn) (known : List Nat) (word : ByteArray) (l : List Nat) (a : Nat) : sumOf tr known word (l ++ [a]) = sumOf tr known word l + adds tr known word a := by
  simp [sumOf]

theorem adds_le {tr : List Dn} (h : Small tr) (known : List Nat) (word : ByteArray) (a : Nat) : adds tr known word a ≤ 99 := by
  unfold adds
  split
  · unfold cmAt
    cases ha : tr[a]? with
    | none => simp [dn0, cm0]
    | some d => simpa using h d (List.mem_of_getElem? ha)
  · omega

theorem sumOf_le {tr : List Dn} (h : Small tr) (known : List Nat) (word : ByteArray) (l : List Nat) : sumOf tr known word l ≤ 99 * l.length := by
  induction l with
  | nil => simp [sumOf]
  | cons a l ih =>
    have := adds_le h known word a
    simp only [sumOf, List.map_cons, List.sum_cons, List.length_cons] at ih ⊢
    omega

theorem toList_inj {a b : ByteArray} (h : a.toList = b.toList) : a = b := by
  rw [ByteArray.toList_eq, ByteArray.toList_eq] at h
  exact ByteArray.ext (Array.toList_inj.mp h)

theorem bs_ne {a b : ByteArray} (h : a ≠ b) : (a.toList == b.toList) = false := by
  rw [beq_eq_false_iff_ne]; exact fun e => h (toList_inj e)

theorem Kd.bs_inj {a b : Kd} (h : a.bs = b.bs) : a = b := by
  cases a <;> cases b <;> first | rfl | (simp [Kd.bs] at h)

theorem ne_add {k : Kd} (h : ¬ k = .closed) : (k.bs.toList == [97, 100, 100]) = false := by
  cases k <;> first | exact absurd rfl h | simp [Kd.bs, ByteArray.toList_eq]
theorem ne_remove {k : Kd} (h : ¬ k = .listen) : (k.bs.toList == [114, 101, 109, 111, 118, 101]) = false := by
  cases k <;> first | exact absurd rfl h | simp [Kd.bs, ByteArray.toList_eq]
theorem ne_apply {k : Kd} (h : ¬ k = .established) : (k.bs.toList == [97, 112, 112, 108, 121]) = false := by
  cases k <;> first | exact absurd rfl h | simp [Kd.bs, ByteArray.toList_eq]
theorem ne_revoke {k : Kd} (h : ¬ k = .finWait) : (k.bs.toList == [114, 101, 118, 111, 107, 101]) = false := by
  cases k <;> first | exact absurd rfl h | simp [Kd.bs, ByteArray.toList_eq]
theorem ne_note {k : Kd} (h : ¬ k = .closeWait) : (k.bs.toList == [110, 111, 116, 101]) = false := by
  cases k <;> first | exact absurd rfl h | simp [Kd.bs, ByteArray.toList_eq]

theorem staysB_snoc (tr : List Dn) (l : List Nat) (a y : Nat) : staysB tr (l ++ [y]) a = (staysB tr l a && !hits tr a y) := by
  simp [staysB, List.all_append]

theorem staysB_false {tr : List Dn} {l : List Nat} {a y : Nat} (hm : y ∈ l) (h : hits tr a y = true) : staysB tr l a = false := by
  simp only [staysB, List.all_eq_false]
  exact ⟨y, hm, by simp [h]⟩

theorem hasB_true {tr : List Dn} {known : List Nat} {k : Kd} {word : ByteArray} {y : Nat} (hm : y ∈ known) (h : isThere tr known k word y = true) : hasB tr known k word = true := by
  simp only [hasB, List.any_eq_true]
  exact ⟨y, hm, h⟩

end Go.Proofs.YtckmppkdpnhodaaGreatDoor

namespace Go.Proofs.YtckmppkdpnhodaaGreatDoor
set_option linter.unusedVariables false
set_option linter.unusedSimpArgs false
open Go.RowKit

theorem ret_int {k : IntKind} {a b : Int} (h : a = b) : Ending.returned (.int k a) = .returned (.int k b) := by rw [h]
theorem ret_bool {a b : Bool} (h : a = b) : Ending.returned (.bool a) = .returned (.bool b) := by rw [h]

/-- A slice of int that reads as these numbers. -/
def NatsAt (w : World) (v : Value) (xs : List Nat) : Prop :=
  ∃ p cap, v = .slice p xs.length cap ∧ ∀ (i x : Nat), xs[i]? = some x → ∃ g, p = some ⟨g, 0, none⟩ ∧ w.cell? ⟨g, i, none⟩ = some (.int .i64 (x : Int))

theorem cell_below {w w' : World} (hb : Below w.heap.size w w') {a : Addr} {v : Value} (h : w.cell? a = some v) : w'.cell? a = some v :=
  (hb.cell (World.block_lt_of_cell? w a h)).trans h

theorem NatsAt.below {w w' : World} {v : Value} {xs : List Nat} (h : NatsAt w v xs) (hb : Below w.heap.size w w') : NatsAt w' v xs := by
  obtain ⟨p, cap, hv, hc⟩ := h
  refine ⟨p, cap, hv, fun i x hx => ?_⟩
  obtain ⟨g, hg, hcell⟩ := hc i x hx
  exact ⟨g, hg, cell_below hb hcell⟩

set_option maxHeartbeats 400000 in
theorem in_any (v : Value) (xs : List Nat) (n : Nat) (w : World) (hl : xs.length ≤ maxLen) (hv : NatsAt w v xs) :
    Calls Tryz.prog 66 #[v, .int .i64 (n : Int)] w fun e w' => e = .returned (.bool (inB xs n)) ∧ w' = w := by
  obtain ⟨p, cap, rfl, hc⟩ := hv
  unfold maxLen at hl
  go_enter Tryz.func66, Tryz.ntmps66
  go_wp2
  go_loop [5] (fun i => ∃ k : Nat, k ≤ xs.length ∧ i = .int .i64 k ∧ inB (xs.take k) n = false) (fun i => xs.length - (intOf i).toNat)
  case atStart => exact ⟨0, Nat.zero_le _, rfl, by simp [inB]⟩
  case round =>
    obtain ⟨k, hk, rfl, hno⟩ := hrel
    have HN : Hid (inB (xs.take k) n = false) := hno
    clear hno
    by_cases hlt : k < xs.length
    · obtain ⟨g, rfl, hck⟩ := hc k xs[k] (List.getElem?_eq_getElem hlt)
      clear hc
      by_cases he : xs[k] = n
      · go_wp2
        go_ret
        exact ⟨ret_bool (by simp only [inB]; exact (decide_eq_true (he ▸ List.getElem_mem hlt)).symm), rfl⟩
      · go_wp2
        go_round
        case rel => exact ⟨k + 1, by omega, by go_num, by
          have := HN.out
          rw [take_snoc' xs k hlt]
          simp only [inB, decide_eq_false_iff_not] at this ⊢
          simp only [List.mem_append, List.mem_singleton]
          rintro (h | h)
          · exact this h
          · exact he h.symm⟩
        case measure => simp [intOf]; omega
    · clear hc
      go_wp2
      go_ret
      exact ⟨ret_bool (by rw [← HN.out, List.take_of_length_le (by omega)]), rfl⟩

/-- A slice of cartelref.Done that reads as this trace. -/
def TraceAt (w : World) (v : Value) (tr : List Dn) : Prop :=
  ∃ p cap, v = .slice p tr.length cap ∧ ∀ (i : Nat) (d : Dn), tr[i]? = some d → ∃ g bv, p = some ⟨g, 0, none⟩ ∧
    w.cell? ⟨g, i * 7, none⟩ = some (.int .i64 (d.org : Int)) ∧ w.cell? ⟨g, i * 7 + 1, none⟩ = some (.int .i64 (d.seq : Int)) ∧
    w.cell? ⟨g, i * 7 + 2, none⟩ = some (.string d.text) ∧ w.cell? ⟨g, i * 7 + 3, none⟩ = some (.string d.c.k.bs) ∧
    w.cell? ⟨g, i * 7 + 4, none⟩ = some (.string d.c.word) ∧ w.cell? ⟨g, i * 7 + 5, none⟩ = some (.int .i64 (d.c.count : Int)) ∧
    w.cell? ⟨g, i * 7 + 6, none⟩ = some bv ∧ NatsAt w bv d.bef ∧ d.bef.length ≤ maxLen

theorem TraceAt.below {w w' : World} {v : Value} {tr : List Dn} (h : TraceAt w v tr) (hb : Below w.heap.size w w') : TraceAt w' v tr := by
  obtain ⟨p, cap, hv, hc⟩ := h
  refine ⟨p, cap, hv, fun i d hd => ?_⟩
  obtain ⟨g, bv, hg, c0, c1, c2, c3, c4, c5, c6, hn, hl⟩ := hc i d hd
  exact ⟨g, bv, hg, cell_below hb c0, cell_below hb c1, cell_below hb c2, cell_below hb c3, cell_below hb c4, cell_below hb c5, cell_below hb c6, hn.below hb, hl⟩

set_option maxHeartbeats 400000 in
theorem ahead_any (tv : Value) (tr : List Dn) (a b : Nat) (w : World) (hT : TraceAt w tv tr) (hb : b < tr.length) (hl : tr.length ≤ maxLen) :
    Calls Tryz.prog 116 #[tv, .int .i64 (a : Int), .int .i64 (b : Int)] w fun e w' => e = .returned (.bool (inB (befAt tr b) a)) ∧ w' = w := by
  obtain ⟨p, cap, rfl, hc⟩ := hT
  obtain ⟨g, bv, rfl, -, -, -, -, -, -, c6, hn, hbl⟩ := hc b tr[b] (List.getElem?_eq_getElem hb)
  clear hc
  have HB : Hid (befAt tr b = tr[b].bef) := befAt_of (List.getElem?_eq_getElem hb)
  generalize tr[b].bef = xs at *
  generalize befAt tr b = ys at *
  generalize tr.length = n at *
  obtain ⟨q, capq, rfl, hc⟩ := hn
  unfold maxLen at hl hbl
  go_enter Tryz.func116, Tryz.ntmps116
  go_wp2
  go_loop [7] (fun i => ∃ k : Nat, k ≤ xs.length ∧ i = .int .i64 k ∧ inB (xs.take k) a = false) (fun i => xs.length - (intOf i).toNat)
  case atStart => exact ⟨0, Nat.zero_le _, rfl, by simp [inB]⟩
  case round =>
    obtain ⟨k, hk, rfl, hno⟩ := hrel
    have HN : Hid (inB (xs.take k) a = false) := hno
    clear hno
    by_cases hlt : k < xs.length
    · obtain ⟨g', rfl, hck⟩ := hc k xs[k] (List.getElem?_eq_getElem hlt)
      clear hc
      by_cases he : xs[k] = a
      · go_wp2
        go_ret
        exact ⟨ret_bool (by rw [HB.out]; exact (inB_true (he ▸ List.getElem_mem hlt)).symm), rfl⟩
      · go_wp2
        go_round
        case rel => exact ⟨k + 1, by omega, by go_num, by
          have := HN.out
          rw [take_snoc' xs k hlt]
          simp only [inB, decide_eq_false_iff_not] at this ⊢
          simp only [List.mem_append, List.mem_singleton]
          rintro (h | h)
          · exact this h
          · exact he h.symm⟩
        case measure => simp [intOf]; omega
    · clear hc
      go_wp2
      go_ret
      exact ⟨ret_bool (by rw [HB.out, ← HN.out, List.take_of_length_le (by omega)]), rfl⟩

end Go.Proofs.YtckmppkdpnhodaaGreatDoor
