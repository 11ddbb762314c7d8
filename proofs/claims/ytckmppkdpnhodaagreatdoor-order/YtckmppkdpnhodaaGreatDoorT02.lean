/-
  Contract of (*World).asks: Known is held to what was known. The end of (*World).asks: the list that came out is given to the book; what has become of the world. The world of the statements in memory: which block holds what (by colours: no two things have a block in common), and what it reads as. The replicas are held by a predicate R of their own. (*World).asks over the whole world in memory. Contract of (*World).asks: Known is held to what was known. Contract of (*World).asks: Known is held to what was known. (*World).asks over the whole world in memory: its contract. Contracts of cartelref.letters, count, split. Contract of cartelref.Read. The plain mathematics of cartelref.words: the words in order, each once. The plain mathematics of cartelref.View: the lines of a cart. Contract of cartelref.Read, in one form each for a command and for none; cartelref.decimal. Contracts of cartelref.stays, Number, Has. Contracts of cartelref.Number and Has. Contract of cartelref.words. Contract of cartelref.View.
-/
import Derived.Test.YtckmppkdpnhodaaGreatDoorT01
import Derived.Deep.RegionLaw
import Derived.Deep.Draws
import Derived.Sort.Walk0
import Derived.Lib.ItoaNum
import Derived.Deep.AppendLies
import Derived.Deep.QuietTactic
import Derived.BigQuiet
import Derived.Deep.RegionHeld3
namespace Go.Proofs.YtckmppkdpnhodaaGreatDoor
set_option linter.unusedVariables false
set_option linter.unusedSimpArgs false
open Go.RowKit

def ints (xs : List Nat) : List Value := xs.map fun (x : Nat) => .int .i64 (x : Int)

theorem NatsAt.of_owns {w : World} {base : Nat} {e : TypeId} {v : Value} {xs : List Nat} (h : w.ownsRow base e 1 v xs.length (ints xs)) : NatsAt w v xs := by
  rcases id h.2 with ⟨rfl, h0⟩ | ⟨g, cap, cur, hv, hb, hg, h1, h2, h3, h4⟩
  · have : xs = [] := List.length_eq_zero_iff.1 h0
    subst this
    exact ⟨none, 0, rfl, fun i x hx => by simp at hx⟩
  · refine ⟨some ⟨g, 0, none⟩, cap, hv, fun i x hx => ⟨g, rfl, ?_⟩⟩
    have := h.cells (g := g) (by rw [hv]; rfl) i (.int .i64 (x : Int)) (by simp [ints, hx])
    rwa [Addr.add_mid, Nat.zero_add] at this

/-- The trace lies in blocks of P. -/
def TraceIn (P : Nat → Prop) (w : World) (v : Value) (tr : List Dn) : Prop :=
  ∃ p cap, v = .slice p tr.length cap ∧ ∀ (i : Nat) (d : Dn), tr[i]? = some d → ∃ g bv, p = some ⟨g, 0, none⟩ ∧ P g ∧
    w.cell? ⟨g, i * 7, none⟩ = some (.int .i64 (d.org : Int)) ∧ w.cell? ⟨g, i * 7 + 1, none⟩ = some (.int .i64 (d.seq : Int)) ∧
    w.cell? ⟨g, i * 7 + 2, none⟩ = some (.string d.text) ∧ w.cell? ⟨g, i * 7 + 3, none⟩ = some (.string d.c.k.bs) ∧
    w.cell? ⟨g, i * 7 + 4, none⟩ = some (.string d.c.word) ∧ w.cell? ⟨g, i * 7 + 5, none⟩ = some (.int .i64 (d.c.count : Int)) ∧
    w.cell? ⟨g, i * 7 + 6, none⟩ = some bv ∧ NatsAt w bv d.bef ∧ (∀ b, bv.ownBlock = some b → P b) ∧ d.bef.length ≤ maxLen

theorem TraceIn.at {P : Nat → Prop} {w : World} {v : Value} {tr : List Dn} (h : TraceIn P w v tr) : TraceAt w v tr := by
  obtain ⟨p, cap, hv, hc⟩ := h
  refine ⟨p, cap, hv, fun i d hd => ?_⟩
  obtain ⟨g, bv, hg, -, c0, c1, c2, c3, c4, c5, c6, hn, -, hl⟩ := hc i d hd
  exact ⟨g, bv, hg, c0, c1, c2, c3, c4, c5, c6, hn, hl⟩

theorem NatsAt.same {w w' : World} {v : Value} {xs : List Nat} (h : NatsAt w v xs) (hs : ∀ b, v.ownBlock = some b → b < w.heap.size → w'.heap[b]? = w.heap[b]?) : NatsAt w' v xs := by
  obtain ⟨p, cap, rfl, hc⟩ := h
  refine ⟨p, cap, rfl, fun i x hx => ?_⟩
  obtain ⟨g, rfl, hcell⟩ := hc i x hx
  exact ⟨g, rfl, (World.cell?_of_block (a := ⟨g, i, none⟩) (hs g rfl (World.block_lt_of_cell? w _ hcell))).trans hcell⟩

theorem TraceIn.same {P : Nat → Prop} {w w' : World} {v : Value} {tr : List Dn} (h : TraceIn P w v tr) (hs : ∀ b, P b → b < w.heap.size → w'.heap[b]? = w.heap[b]?) : TraceIn P w' v tr := by
  obtain ⟨p, cap, hv, hc⟩ := h
  refine ⟨p, cap, hv, fun i d hd => ?_⟩
  obtain ⟨g, bv, hg, hP, c0, c1, c2, c3, c4, c5, c6, hn, hb, hl⟩ := hc i d hd
  have hk : ∀ j u, w.cell? ⟨g, j, none⟩ = some u → w'.cell? ⟨g, j, none⟩ = some u := fun j u hu =>
    (World.cell?_of_block (a := ⟨g, j, none⟩) (hs g hP (World.block_lt_of_cell? w _ hu))).trans hu
  exact ⟨g, bv, hg, hP, hk _ _ c0, hk _ _ c1, hk _ _ c2, hk _ _ c3, hk _ _ c4, hk _ _ c5, hk _ _ c6, hn.same fun b hb' hl => hs b (hb b hb') hl, hb, hl⟩

theorem TraceIn.upd {P : Nat → Prop} {S : List (Option Nat)} {w w' : World} {v : Value} {tr : List Dn} (h : TraceIn P w v tr) (hu : Upd S w w') (hP : ∀ b, P b → some b ∉ S) : TraceIn P w' v tr :=
  h.same fun b hb hl => hu.block b hl (hP b hb)

def dnAt (tr : List Dn) (p : Nat) : Dn := tr[p]?.getD dn0
theorem dnAt_of {tr : List Dn} {p : Nat} (h : p < tr.length) : dnAt tr p = tr[p] := by simp [dnAt, h]

/-- The commands at these places, as cells of a list of api.Op. -/
def opCells (tr : List Dn) (ids : List Nat) : List Value := ids.flatMap fun p => [.int .i64 ((dnAt tr p).org : Int), .int .i64 ((dnAt tr p).seq : Int), .string (dnAt tr p).text]

/-- What is known of the places of the commands that a replica tells. -/
structure Told (tr : List Dn) (ids : List Nat) : Prop where
  nodup : ids.Nodup
  lt : ∀ p ∈ ids, p < tr.length
  first : ∀ p ∈ ids, ∀ j (h : j < tr.length), j < p → ¬ (tr[j].org = (dnAt tr p).org ∧ tr[j].seq = (dnAt tr p).seq)
  bef : ∀ i (h : i < ids.length), ∀ y ∈ (dnAt tr ids[i]).bef, y ∈ ids.take i

/-- What asks owns of the world behind Known. -/
structure AskMem (w1 : World) (S : List (Option Nat)) (kb k : Nat) (KB : Array Value) (Tk : TypeId) (u : Value) (ids : List Nat) (j : Nat) (wr : World) : Prop where
  up : Upd S w1 wr
  row : ∃ u', wr.heap[kb]? = some (.cells (KB.setIfInBounds k u') Tk (0, 0)) ∧ wr.ownsRow 0 3 1 u' j (ints (ids.take j)) ∧ (∀ b, u'.ownBlock = some b → u.ownBlock = some b ∨ w1.heap.size ≤ b)

/-- What a round of asks reads. -/
structure AskF (P : Nat → Prop) (wb kb k nk capk : Nat) (tv u' l : Value) (tr : List Dn) (ids : List Nat) (j : Nat) (W : World) : Prop where
  c2 : W.cell? ⟨wb, 2, none⟩ = some tv
  c3 : W.cell? ⟨wb, 3, none⟩ = some (.slice (some ⟨kb, 0, none⟩) nk capk)
  ck : W.cell? ⟨kb, k, none⟩ = some u'
  fk : W.frozen? ⟨kb, k, none⟩ = false
  trace : TraceIn P W tv tr
  row : W.ownsRow 0 3 1 u' j (ints (ids.take j))
  lrow : W.ownsRow 0 68 3 l ids.length (opCells tr ids)

theorem AskF.below {P : Nat → Prop} {wb kb k nk capk j : Nat} {tv u' l : Value} {tr : List Dn} {ids : List Nat} {W W' : World} (h : AskF P wb kb k nk capk tv u' l tr ids j W) (hb : Below W.heap.size W W') : AskF P wb kb k nk capk tv u' l tr ids j W' :=
  ⟨cell_below hb h.c2, cell_below hb h.c3, cell_below hb h.ck, (hb.frozen (p := ⟨kb, k, none⟩) (World.block_lt_of_cell? W _ h.ck)).trans h.fk, h.trace.same fun b _ hl => hb.block b hl,
   (Upd.of_below (S := []) hb).owns h.row (by simp), (Upd.of_below (S := []) hb).owns h.lrow (by simp)⟩

theorem AskF.place {P : Nat → Prop} {wb kb k nk capk j : Nat} {tv u' l : Value} {tr : List Dn} {ids : List Nat} {W : World} (h : AskF P wb kb k nk capk tv u' l tr ids j W) (told : Told tr ids) (hl : tr.length ≤ maxLen) {i : Nat} (hi : i < ids.length) :
    Calls Tryz.prog 65 #[.pointer (some ⟨wb, 0, none⟩), .agg #[.int .i64 ((dnAt tr ids[i]).org : Int), .int .i64 ((dnAt tr ids[i]).seq : Int), .string (dnAt tr ids[i]).text]] W fun e w' => e = .returned (.int .i64 (ids[i] : Int)) ∧ Below W.heap.size W w' := by
  have hp : ids[i] < tr.length := told.lt _ (List.getElem_mem hi)
  have e := dnAt_of hp
  have hf := told.first _ (List.getElem_mem hi)
  rw [e] at hf ⊢
  exact place_at wb tv tr ids[i] W h.c2 h.trace.at hl hp hf

theorem AskMem.below {w1 : World} {S : List (Option Nat)} {kb k : Nat} {KB : Array Value} {Tk : TypeId} {u : Value} {ids : List Nat} {j : Nat} {wr w' : World} (h : AskMem w1 S kb k KB Tk u ids j wr) (hb : Below wr.heap.size wr w') : AskMem w1 S kb k KB Tk u ids j w' := by
  obtain ⟨up, u', hk, hrow, hub⟩ := h
  exact ⟨up.below hb, u', (hb.block kb (Array.getElem?_eq_some_iff.1 hk).1).trans hk, (Upd.of_below (S := []) hb).owns hrow (by simp), hub⟩

/-- A command more is known: behind the append and the store. -/
theorem AskMem.push {w1 : World} {kb k : Nat} {KB : Array Value} {Tk : TypeId} {u u' : Value} {ids : List Nat} {j pp : Nat} {wa w4 W4 w5 : World} {g5 cap5 H B1 : Nat}
    (h : AskMem w1 [some kb, u.ownBlock] kb k KB Tk u ids j wa) (hb4 : Below wa.heap.size wa w4) (hk4 : w4.heap[kb]? = some (.cells (KB.setIfInBounds k u') Tk (0, 0))) (hub : ∀ b, u'.ownBlock = some b → u.ownBlock = some b ∨ B1 ≤ b) (hB1 : w1.heap.size = B1)
    (hu2 : u.ownBlock ≠ some kb) (hkb : kb < B1) (hW : Upd [] w4 W4) (hg : W4.grownBy w5 u'.ownBlock) (hat : u'.ownBlock = some g5 ∨ g5 = H) (hH : w4.heap.size ≤ H)
    (hown : w5.ownsRow 0 3 1 (.slice (some ⟨g5, 0, none⟩) (j + 1) cap5) (j + 1) (ints (ids.take j) ++ [.int .i64 (pp : Int)])) (hsn : ids.take (j + 1) = ids.take j ++ [pp]) :
    AskMem w1 [some kb, u.ownBlock] kb k KB Tk u ids (j + 1) (w5.setCell ⟨kb, k, none⟩ (.slice (some ⟨g5, 0, none⟩) (j + 1) cap5)) := by
  obtain ⟨up, -⟩ := h
  have s1 := up.size
  have s2 := hb4.size
  have s3 := hW.size
  have hkl : kb < W4.heap.size := by omega
  have hne : u'.ownBlock ≠ some kb := fun e => by rcases hub _ e with h | h; exact hu2 h; omega
  have hg5 : g5 ≠ kb := by
    rcases hat with h | h
    · exact fun e => hne (by rw [h, e])
    · omega
  have hk5 : w5.heap[kb]? = some (.cells (KB.setIfInBounds k u') Tk (0, 0)) := by
    rw [hg.block kb hkl (fun e => hne e.symm), hW.block kb (Array.getElem?_eq_some_iff.1 hk4).1 (by simp)]; exact hk4
  refine ⟨?_, .slice (some ⟨g5, 0, none⟩) (j + 1) cap5, ?_, ?_, ?_⟩
  · refine ((((up.below hb4).trans hW (by simp)).grown hg fun b hb => ?_).setCell (.inl (by simp)) _)
    rcases hub b hb with h | h
    · exact .inl (by simp [h])
    · exact .inr (by omega)
  · have := heap_setCell_same (o := k) hk5 (.slice (some ⟨g5, 0, none⟩) (j + 1) cap5)
    rw [Array.setIfInBounds_setIfInBounds] at this
    exact this
  · have := owns_setCell_other (a := ⟨kb, k, none⟩) hown (fun b hb e => by simp [Value.ownBlock] at hb; exact hg5 (by rw [hb, e])) (.slice (some ⟨g5, 0, none⟩) (j + 1) cap5)
    rw [hsn]
    simpa [ints] using this
  · intro b hb
    simp [Value.ownBlock] at hb
    subst hb
    rcases hat with h | h
    · rcases hub _ h with h | h
      · exact .inl h
      · exact .inr (by omega)
    · exact .inr (by omega)

end Go.Proofs.YtckmppkdpnhodaaGreatDoor

namespace Go.Proofs.YtckmppkdpnhodaaGreatDoor
set_option linter.unusedVariables false
set_option linter.unusedSimpArgs false
open Go.RowKit

theorem MarksAt.lt {w : World} {u : Value} {m : Nat} {k : Int} (h : MarksAt w u m k) (hm : 0 < m) {b : Nat} (hb : u.ownBlock = some b) : b < w.heap.size := by
  obtain ⟨p, cap, rfl, hc⟩ := h
  obtain ⟨g, rfl, c0, -, -⟩ := hc 0 hm
  simp [Value.ownBlock] at hb
  subst hb
  exact World.block_lt_of_cell? w _ c0

end Go.Proofs.YtckmppkdpnhodaaGreatDoor

namespace Go.Proofs.YtckmppkdpnhodaaGreatDoor
set_option linter.unusedVariables false
set_option linter.unusedSimpArgs false
open Go.RowKit

/-- What the world holds. -/
structure St where
  n : Nat
  rbs : List Nat
  logs : List (List Cm)
  tr : List Dn
  xss : List (List Nat)
  since : List Nat
  fresh : List Bool
  bk : List (Nat × Int)

/-- Where it lies. -/
structure Lay where
  wb : Nat
  lb : Nat
  capl : Nat
  tv : Value
  bvs : List Value
  kb : Nat
  capk : Nat
  KB : Array Value
  sv : Value
  fb : Nat
  capf : Nat
  FB : Array Value
  osv : Value
  kov : Value
  us : List Value

/-- The cells of the world's own struct. -/
def Lay.C (L : Lay) (n : Nat) : Array Value :=
  #[.int .i64 (n : Int), .slice (some ⟨L.lb, 0, none⟩) n L.capl, L.tv, .slice (some ⟨L.kb, 0, none⟩) n L.capk, .slice none 0 0, L.sv, .slice (some ⟨L.fb, 0, none⟩) n L.capf, .bool false, .slice none 0 0, .slice none 0 0, L.osv, L.kov, .slice none 0 0, .slice none 0 0]

/-- The cells of the trace. -/
def traceCells (tr : List Dn) (bvs : List Value) : List Value :=
  (tr.zip bvs).flatMap fun x => [.int .i64 (x.1.org : Int), .int .i64 (x.1.seq : Int), .string x.1.text, .string x.1.c.k.bs, .string x.1.c.word, .int .i64 (x.1.c.count : Int), x.2]

variable (R : World → Nat → Nat → Nat → List Cm → (Nat → Prop) → Prop)

structure Mem (w : World) (c : Nat → Nat) (L : Lay) (st : St) : Prop where
  npos : 2 ≤ st.n ∧ st.n ≤ 5
  wbk : w.heap[L.wb]? = some (.cells (L.C st.n) 82 (0, 0))
  wbc : c L.wb = 1
  lbc : c L.lb = 2
  lcell : ∀ i (h : i < st.rbs.length), w.cell? ⟨L.lb, i, none⟩ = some (.pointer (some ⟨st.rbs[i], 0, none⟩))
  llen : st.rbs.length = st.n
  trow : w.ownsRow 0 91 7 L.tv st.tr.length (traceCells st.tr L.bvs)
  tvc : ∀ b, L.tv.ownBlock = some b → c b = 3
  blen : L.bvs.length = st.tr.length
  bef : ∀ i (h : i < st.tr.length) (h' : i < L.bvs.length), NatsAt w L.bvs[i] st.tr[i].bef ∧ (∀ b, L.bvs[i].ownBlock = some b → c b = 9 ∧ b < w.heap.size) ∧ st.tr[i].bef.length ≤ maxLen
  kbk : w.heap[L.kb]? = some (.cells L.KB 75 (0, 0))
  kbc : c L.kb = 4
  xlen : st.xss.length = st.n
  xrow : ∀ i (h : i < st.xss.length), ∃ u, L.KB[i]? = some u ∧ w.ownsRow 0 3 1 u st.xss[i].length (ints st.xss[i]) ∧ ∀ b, u.ownBlock = some b → c b = 10 + i
  slen : st.since.length = st.n
  srow : w.ownsRow 0 3 1 L.sv st.n (ints st.since)
  svc : ∀ b, L.sv.ownBlock = some b → c b = 5
  fbk : w.heap[L.fb]? = some (.cells L.FB 4 (0, 0))
  fbc : c L.fb = 6
  flen : st.fresh.length = st.n
  fcell : ∀ i (h : i < st.fresh.length), L.FB[i]? = some (.bool st.fresh[i])
  orow : w.ownsRow 0 62 1 L.osv st.bk.length L.us
  ovc : ∀ b, L.osv.ownBlock = some b → c b = 7
  marks : ∀ i (h : i < st.bk.length) (h' : i < L.us.length), MarksAt w L.us[i] st.bk[i].1 st.bk[i].2 ∧ ∀ b, L.us[i].ownBlock = some b → c b = 9 ∧ b < w.heap.size
  krow : w.ownsRow 0 3 1 L.kov st.bk.length (st.bk.map fun e => .int .i64 e.2)
  kvc : ∀ b, L.kov.ownBlock = some b → c b = 8
  logn : st.logs.length = st.n
  reps : ∀ i (h : i < st.logs.length) (h' : i < st.rbs.length), R w st.rbs[i] st.n i st.logs[i] fun b => c b = 20 + i

end Go.Proofs.YtckmppkdpnhodaaGreatDoor

namespace Go.Proofs.YtckmppkdpnhodaaGreatDoor
set_option linter.unusedVariables false
set_option linter.unusedSimpArgs false
open Go.RowKit

theorem traceCells_get : ∀ (tr : List Dn) (bvs : List Value) (i : Nat) (h : i < tr.length) (h' : i < bvs.length), ∀ o v, [Value.int .i64 (tr[i].org : Int), .int .i64 (tr[i].seq : Int), .string tr[i].text, .string tr[i].c.k.bs, .string tr[i].c.word, .int .i64 (tr[i].c.count : Int), bvs[i]][o]? = some v → (traceCells tr bvs)[i * 7 + o]? = some v
  | [], _, i, h, _ => by simp at h
  | _ :: _, [], i, _, h' => by simp at h'
  | d :: tr, b :: bvs, 0, _, _ => fun o v ho => by
    have hl : o < 7 := by
      have := (List.getElem?_eq_some_iff.1 ho).1
      simpa using this
    have e : traceCells (d :: tr) (b :: bvs) = [Value.int .i64 (d.org : Int), .int .i64 (d.seq : Int), .string d.text, .string d.c.k.bs, .string d.c.word, .int .i64 (d.c.count : Int), b] ++ traceCells tr bvs := by simp [traceCells]
    rw [e, Nat.zero_mul, Nat.zero_add, List.getElem?_append_left (by simpa using hl)]
    exact ho
  | d :: tr, b :: bvs, i + 1, h, h' => fun o v ho => by
    have ih := traceCells_get tr bvs i (by simpa using h) (by simpa using h') o v (by simpa using ho)
    have e : traceCells (d :: tr) (b :: bvs) = [Value.int .i64 (d.org : Int), .int .i64 (d.seq : Int), .string d.text, .string d.c.k.bs, .string d.c.word, .int .i64 (d.c.count : Int), b] ++ traceCells tr bvs := by simp [traceCells]
    rw [e, List.getElem?_append_right (by simp; omega)]
    have : (i + 1) * 7 + o - 7 = i * 7 + o := by omega
    simpa [this] using ih

variable {R : World → Nat → Nat → Nat → List Cm → (Nat → Prop) → Prop}

theorem Mem.trace {w : World} {c : Nat → Nat} {L : Lay} {st : St} (h : Mem R w c L st) : TraceIn (fun b => c b = 3 ∨ c b = 9) w L.tv st.tr := by
  rcases id h.trow.2 with ⟨hv, h0⟩ | ⟨g, cap, cur, hv, hb, hg, h1, h2, h3, h4⟩
  · refine ⟨none, 0, by rw [hv, h0], fun i d hd => ?_⟩
    have := (List.getElem?_eq_some_iff.1 hd).1
    omega
  · refine ⟨some ⟨g, 0, none⟩, cap, hv, fun i d hd => ?_⟩
    obtain ⟨hi, rfl⟩ := List.getElem?_eq_some_iff.1 hd
    have hi' : i < L.bvs.length := by rw [h.blen]; exact hi
    obtain ⟨hn, hc, hl⟩ := h.bef i hi hi'
    have hcell : ∀ o v, [Value.int .i64 (st.tr[i].org : Int), .int .i64 (st.tr[i].seq : Int), .string st.tr[i].text, .string st.tr[i].c.k.bs, .string st.tr[i].c.word, .int .i64 (st.tr[i].c.count : Int), L.bvs[i]][o]? = some v → w.cell? ⟨g, i * 7 + o, none⟩ = some v := fun o v ho => by
      have := h.trow.cells (g := g) (by rw [hv]; rfl) _ _ (traceCells_get st.tr L.bvs i hi hi' o v ho)
      rwa [Addr.add_mid, Nat.zero_add] at this
    exact ⟨g, L.bvs[i], rfl, .inl (h.tvc g (by rw [hv]; rfl)), hcell 0 _ rfl, hcell 1 _ rfl, hcell 2 _ rfl, hcell 3 _ rfl, hcell 4 _ rfl, hcell 5 _ rfl, hcell 6 _ rfl, hn, fun b hb => .inr (hc b hb).1, hl⟩

/-- Of the blocks that were there: the colours stand; what is nobody's has not turned. -/
structure Stp (w : World) (c : Nat → Nat) (w' : World) (c' : Nat → Nat) : Prop where
  os : w'.os = w.os
  tape : w'.tape = w.tape
  output : w'.output = w.output
  size : w.heap.size ≤ w'.heap.size
  col : ∀ b, b < w.heap.size → c' b = c b
  zero : ∀ b, b < w.heap.size → c b = 0 → w'.heap[b]? = w.heap[b]?

/-- The replicas' predicate hangs on the blocks of their colour alone. -/
structure Local (R : World → Nat → Nat → Nat → List Cm → (Nat → Prop) → Prop) : Prop where
  same : ∀ {w w' : World} {rb n me : Nat} {log : List Cm} {F F' : Nat → Prop}, R w rb n me log F → w.heap.size ≤ w'.heap.size → (∀ b, F b → b < w.heap.size → w'.heap[b]? = w.heap[b]? ∧ F' b) → R w' rb n me log F'

end Go.Proofs.YtckmppkdpnhodaaGreatDoor

namespace Go.Proofs.YtckmppkdpnhodaaGreatDoor
set_option linter.unusedVariables false
set_option linter.unusedSimpArgs false
open Go.RowKit

attribute [local go_sem ↓] Go.wp_at_zero Go.wp_at_succ

end Go.Proofs.YtckmppkdpnhodaaGreatDoor

namespace Go.Proofs.YtckmppkdpnhodaaGreatDoor
set_option linter.unusedVariables false
set_option linter.unusedSimpArgs false
open Go.RowKit

attribute [local go_sem ↓] Go.wp_at_zero Go.wp_at_succ

end Go.Proofs.YtckmppkdpnhodaaGreatDoor

namespace Go.Proofs.YtckmppkdpnhodaaGreatDoor
set_option linter.unusedVariables false
set_option linter.unusedSimpArgs false
open Go.RowKit

variable {R : World → Nat → Nat → Nat → List Cm → (Nat → Prop) → Prop}

end Go.Proofs.YtckmppkdpnhodaaGreatDoor

namespace Go.Proofs.YtckmppkdpnhodaaGreatDoor
set_option linter.unusedVariables false
set_option linter.unusedSimpArgs false
open Go.RowKit

def isLow (c : UInt8) : Bool := decide (97 ≤ c.toNat) && decide (c.toNat ≤ 122)
def wordB (s : ByteArray) : Bool := decide (1 ≤ s.size) && decide (s.size ≤ 8) && s.data.toList.all isLow

theorem take_byte (s : ByteArray) (k : Nat) (h : k < s.size) : s.data.toList.take (k + 1) = s.data.toList.take k ++ [s[k]] := by
  rw [List.take_succ_eq_append_getElem (by simpa using h)]; rfl

theorem mem_byte (s : ByteArray) (k : Nat) (h : k < s.size) : s[k] ∈ s.data.toList := by
  have : s.data.toList[k]'(by simpa using h) ∈ s.data.toList := List.getElem_mem _
  exact this

/-- The first blank's place; the length where there is none. -/
def blank (s : ByteArray) : Nat := s.data.toList.findIdx (· == 32)

/-- What a text of digits is worth: 0 where it is no count. -/
def countGo : List UInt8 → Nat → Nat
  | [], n => n
  | c :: r, n => if c.toNat < 48 ∨ 57 < c.toNat then 0 else if 10 * n + (c.toNat - 48) = 0 ∨ 99 < 10 * n + (c.toNat - 48) then 0 else countGo r (10 * n + (c.toNat - 48))

def countN (s : ByteArray) : Nat := countGo s.data.toList 0

theorem drop_byte (s : ByteArray) (k : Nat) (h : k < s.size) : s.data.toList.drop k = s[k] :: s.data.toList.drop (k + 1) := by
  rw [List.drop_eq_getElem_cons (by simpa using h)]; rfl

theorem countGo_le : ∀ (l : List UInt8) (n : Nat), n ≤ 99 → countGo l n ≤ 99
  | [], n, h => h
  | c :: r, n, h => by
    unfold countGo
    split
    · omega
    · split
      · omega
      · exact countGo_le r _ (by omega)

end Go.Proofs.YtckmppkdpnhodaaGreatDoor

namespace Go.Proofs.YtckmppkdpnhodaaGreatDoor
set_option linter.unusedVariables false
set_option linter.unusedSimpArgs false
open Go.RowKit

/-- A text at its first blank. -/
def headOf (s : ByteArray) : ByteArray := if blank s < s.size then s.extract 0 (blank s) else s
def tailOf (s : ByteArray) : ByteArray := if blank s < s.size then s.extract (blank s + 1) s.size else ByteArray.empty
def hasBlank (s : ByteArray) : Bool := decide (blank s < s.size)

/-- The command that a text is, if it is one. -/
def readC (s : ByteArray) : Option Cm :=
  if hasBlank s = true ∧ wordB (headOf (tailOf s)) = true then
    if headOf s = (Kd.bs Go.Tcp.closed) then
      if hasBlank (tailOf s) = true ∧ 0 < countN (tailOf (tailOf s)) then some ⟨.closed, headOf (tailOf s), countN (tailOf (tailOf s))⟩ else none
    else if hasBlank (tailOf s) = true then none
    else if headOf s = (Kd.bs Go.Tcp.listen) then some ⟨.listen, headOf (tailOf s), 0⟩
    else if headOf s = (Kd.bs Go.Tcp.established) then some ⟨.established, headOf (tailOf s), 0⟩
    else if headOf s = (Kd.bs Go.Tcp.finWait) then some ⟨.finWait, headOf (tailOf s), 0⟩
    else if headOf s = (Kd.bs Go.Tcp.closeWait) then some ⟨.closeWait, headOf (tailOf s), 0⟩
    else none
  else none

theorem tailOf_size (s : ByteArray) : (tailOf s).size ≤ s.size := by
  unfold tailOf; split
  · rw [ByteArray.size_extract]; omega
  · simp

theorem headOf_size (s : ByteArray) : (headOf s).size ≤ s.size := by
  unfold headOf; split
  · rw [ByteArray.size_extract]; omega
  · simp

section
variable (s : ByteArray) (w : World)

end
end Go.Proofs.YtckmppkdpnhodaaGreatDoor

namespace Go.Proofs.YtckmppkdpnhodaaGreatDoor
set_option linter.unusedVariables false
set_option linter.unusedSimpArgs false
open Go.RowKit Go.Proofs

abbrev Wd := List UInt8

theorem wd_trans {a b c : Wd} (h : a < b) (k : b < c) : a < c := List.lt_trans h k
theorem wd_irrefl (a : Wd) : ¬ a < a := List.lt_irrefl a
theorem wd_tri {a b : Wd} (h : ¬ a < b) (k : ¬ b < a) : a = b := List.le_antisymm (List.not_lt.1 k) (List.not_lt.1 h)
theorem wd_le_lt {a b c : Wd} (h : ¬ b < a) (k : b < c) : a < c := by
  by_cases e : a < b
  · exact wd_trans e k
  · rw [wd_tri e h]; exact k
theorem wd_nil {a : Wd} : ¬ a < [] := by simp
theorem wd_pos {a : Wd} (h : a ≠ []) : [] < a := by
  cases a with
  | nil => exact absurd rfl h
  | cons x l => simp

/-- The smallest of some words that is greater than 'last'; empty: there is none. -/
def Best (ws : List Wd) (last best : Wd) : Prop :=
  (best = [] ∧ ∀ x ∈ ws, ¬ last < x) ∨ (last < best ∧ best ∈ ws ∧ ∀ x ∈ ws, last < x → ¬ x < best)

theorem Best.nil (last : Wd) : Best [] last [] := .inl ⟨rfl, fun _ h => by cases h⟩

theorem Best.skip {ws : List Wd} {last best x : Wd} (h : Best ws last best) (hx : ¬ last < x) : Best (ws ++ [x]) last best := by
  rcases h with ⟨rfl, h⟩ | ⟨h1, h2, h3⟩
  · refine .inl ⟨rfl, fun y hy => ?_⟩
    rcases List.mem_append.1 hy with hy | hy
    · exact h y hy
    · obtain rfl := List.mem_singleton.1 hy; exact hx
  · refine .inr ⟨h1, List.mem_append_left _ h2, fun y hy => ?_⟩
    rcases List.mem_append.1 hy with hy | hy
    · exact h3 y hy
    · obtain rfl := List.mem_singleton.1 hy; exact fun k => absurd k hx

theorem Best.take {ws : List Wd} {last best x : Wd} (h : Best ws last best) (hl : last < x) (hb : best = [] ∨ x < best) : Best (ws ++ [x]) last x := by
  refine .inr ⟨hl, by simp, fun y hy hly => ?_⟩
  rcases List.mem_append.1 hy with hy | hy
  · rcases h with ⟨rfl, h⟩ | ⟨h1, h2, h3⟩
    · exact absurd hly (h y hy)
    · rcases hb with rfl | hb
      · exact absurd h1 wd_nil
      · exact fun k => h3 y hy hly (wd_trans k hb)
  · obtain rfl := List.mem_singleton.1 hy; exact wd_irrefl _

/-- The words so far. -/
structure WInv (ws out : List Wd) (last : Wd) : Prop where
  sorted : out.Pairwise (· < ·)
  sub : ∀ x ∈ out, x ∈ ws ∧ ¬ last < x
  all : ∀ x ∈ ws, ¬ last < x → x ∈ out

theorem WInv.start {ws : List Wd} (h : ∀ x ∈ ws, x ≠ []) : WInv ws [] [] :=
  ⟨List.Pairwise.nil, fun _ h => (by cases h), fun x hx k => absurd (wd_pos (h x hx)) k⟩

theorem WInv.step {ws out : List Wd} {last best : Wd} (h : WInv ws out last) (hb : Best ws last best) (hne : best ≠ []) : WInv ws (out ++ [best]) best := by
  rcases hb with ⟨rfl, _⟩ | ⟨h1, h2, h3⟩
  · exact absurd rfl hne
  refine ⟨?_, ?_, ?_⟩
  · rw [List.pairwise_append]
    refine ⟨h.sorted, List.pairwise_singleton _ _, fun a ha b hb => ?_⟩
    obtain rfl := List.mem_singleton.1 hb
    exact wd_le_lt (h.sub a ha).2 h1
  · intro x hx
    rcases List.mem_append.1 hx with hx | hx
    · exact ⟨(h.sub x hx).1, fun k => (h.sub x hx).2 (wd_trans h1 k)⟩
    · obtain rfl := List.mem_singleton.1 hx; exact ⟨h2, wd_irrefl _⟩
  · intro x hx k
    by_cases hl : last < x
    · have := wd_tri (h3 x hx hl) k
      rw [this]; simp
    · exact List.mem_append_left _ (h.all x hx hl)

theorem WInv.done {ws out : List Wd} {last : Wd} (h : WInv ws out last) (hb : Best ws last []) : ∀ x, x ∈ out ↔ x ∈ ws := by
  intro x
  refine ⟨fun hx => (h.sub x hx).1, fun hx => h.all x hx ?_⟩
  rcases hb with ⟨_, hb⟩ | ⟨h1, _⟩
  · exact hb x hx
  · exact absurd h1 wd_nil

def strOf : Value → Wd | .string s => s.toList | _ => []

end Go.Proofs.YtckmppkdpnhodaaGreatDoor

namespace Go.Proofs.YtckmppkdpnhodaaGreatDoor
set_option linter.unusedVariables false
set_option linter.unusedSimpArgs false
open Go.RowKit Go.Proofs

/-- A number in decimal digits. -/
def decN (n : Nat) : ByteArray := ⟨(Lib.decDigits n).toArray⟩

def itemW : List UInt8 := [105, 116, 101, 109, 32]
def couponW : List UInt8 := [99, 111, 117, 112, 111, 110, 32]
def noteW : List UInt8 := [110, 111, 116, 101, 32]

def itemLine (tr : List Dn) (known : List Nat) (x : ByteArray) : List UInt8 :=
  if 0 < numberN tr known x then itemW ++ x.data.toList ++ [32] ++ (decN (numberN tr known x)).data.toList ++ [10] else []

def kindLine (tr : List Dn) (known : List Nat) (k : Kd) (name : List UInt8) (x : ByteArray) : List UInt8 :=
  if hasB tr known k x = true then name ++ x.data.toList ++ [10] else []

def viewL (tr : List Dn) (known : List Nat) (out : List ByteArray) : List UInt8 :=
  out.flatMap (itemLine tr known) ++ out.flatMap (kindLine tr known .established couponW) ++ out.flatMap (kindLine tr known .closeWait noteW)

theorem flatMap_snoc {α β : Type} (l : List α) (k : Nat) (h : k < l.length) (f : α → List β) : (l.take (k + 1)).flatMap f = (l.take k).flatMap f ++ f l[k] := by
  rw [take_snoc' l k h, List.flatMap_append, List.flatMap_cons, List.flatMap_nil, List.append_nil]

theorem decN_small {n : Nat} (h : n < 10) : decN n = ⟨#[UInt8.ofNat (48 + n)]⟩ := by
  unfold decN; rw [Lib.decDigits, dif_pos h]

theorem decN_big {n : Nat} (h : ¬ n < 10) : decN n = decN (n / 10) ++ ⟨#[UInt8.ofNat (48 + n % 10)]⟩ := by
  unfold decN; rw [Lib.decDigits, dif_neg h]
  apply ByteArray.ext
  simp [ByteArray.data_append]

theorem decN_size : ∀ (k n : Nat), n < 10 ^ (k + 1) → (decN n).size ≤ k + 1
  | 0, n, h => by rw [decN_small (by simpa using h)]; simp [ByteArray.size]
  | k + 1, n, h => by
    by_cases h1 : n < 10
    · rw [decN_small h1]; simp [ByteArray.size]
    · rw [decN_big h1, ByteArray.size_append]
      have := decN_size k (n / 10) (by rw [Nat.pow_succ] at h; omega)
      have e : (ByteArray.mk #[UInt8.ofNat (48 + n % 10)]).size = 1 := rfl
      omega

end Go.Proofs.YtckmppkdpnhodaaGreatDoor

namespace Go.Proofs.YtckmppkdpnhodaaGreatDoor
set_option linter.unusedVariables false
set_option linter.unusedSimpArgs false
open Go.RowKit

section
variable (s : ByteArray) (w : World)

end

end Go.Proofs.YtckmppkdpnhodaaGreatDoor

namespace Go.Proofs.YtckmppkdpnhodaaGreatDoor
set_option linter.unusedVariables false
set_option linter.unusedSimpArgs false
open Go.RowKit

end Go.Proofs.YtckmppkdpnhodaaGreatDoor

namespace Go.Proofs.YtckmppkdpnhodaaGreatDoor
set_option linter.unusedVariables false
set_option linter.unusedSimpArgs false
open Go.RowKit

end Go.Proofs.YtckmppkdpnhodaaGreatDoor

namespace Go.Proofs.YtckmppkdpnhodaaGreatDoor
set_option linter.unusedVariables false
set_option linter.unusedSimpArgs false
open Go.RowKit

/-- The words of the known ones. -/
def wordsOf (tr : List Dn) (known : List Nat) : List Wd := known.map fun y => (cmAt tr y).word.toList

end Go.Proofs.YtckmppkdpnhodaaGreatDoor

namespace Go.Proofs.YtckmppkdpnhodaaGreatDoor
set_option linter.unusedVariables false
set_option linter.unusedSimpArgs false
open Go.RowKit Go.Proofs

/-- A slice of string that reads as these. -/
def StrsAt (w : World) (v : Value) (xs : List ByteArray) : Prop :=
  ∃ p cap, v = .slice p xs.length cap ∧ ∀ (i : Nat) (x : ByteArray), xs[i]? = some x → ∃ g, p = some ⟨g, 0, none⟩ ∧ w.cell? ⟨g, i, none⟩ = some (.string x)

theorem StrsAt.below {w w' : World} {v : Value} {xs : List ByteArray} (h : StrsAt w v xs) (hb : Below w.heap.size w w') : StrsAt w' v xs := by
  obtain ⟨p, cap, hv, hc⟩ := h
  refine ⟨p, cap, hv, fun i x hx => ?_⟩
  obtain ⟨g, hg, hcell⟩ := hc i x hx
  exact ⟨g, hg, cell_below hb hcell⟩

theorem StrsAt.of_owns {w : World} {base : Nat} {e : TypeId} {v : Value} {xs : List ByteArray} (h : w.ownsRow base e 1 v xs.length (xs.map Value.string)) : StrsAt w v xs := by
  rcases h.2 with ⟨rfl, h0⟩ | ⟨g, cap, cur, hv, hb, hg, h1, h2, h3, h4⟩
  · have : xs = [] := List.length_eq_zero_iff.1 h0
    subst this
    exact ⟨none, 0, rfl, fun i x hx => by simp at hx⟩
  · refine ⟨some ⟨g, 0, none⟩, cap, hv, fun i x hx => ⟨g, rfl, ?_⟩⟩
    have := h.cells (g := g) (by rw [hv]; rfl) i (.string x) (by simp [hx])
    rwa [Addr.add_mid, Nat.zero_add] at this

/-- The text of the cart of the known ones. -/
def IsView (tr : List Dn) (known : List Nat) (s : ByteArray) : Prop :=
  ∃ out : List ByteArray, (out.map ByteArray.toList).Pairwise (· < ·) ∧ (∀ x, x ∈ out.map ByteArray.toList ↔ x ∈ wordsOf tr known) ∧ s.data.toList = viewL tr known out

end Go.Proofs.YtckmppkdpnhodaaGreatDoor
