/-
  (*Replica).Do, done: the replica with one command more. The replica of the code keeps what the statement Alone asks of it. The witness' world; what the rows' list gives; the arguments of Alone; its card. Alone: its arguments, its card.
-/
import Derived.Test.YtckmppkdpnhodaaGreatDoorT34
import Derived.Test.YtckmppkdpnhodaaGreatDoorT33
import Derived.Test.YtckmppkdpnhodaaGreatDoorT01
import Derived.Test.YtckmppkdpnhodaaGreatDoorCards
import Derived.Test.YtckmppkdpnhodaaGreatDoorTie
import Derived.ProofKit
import Derived.Deep.DeepHandedRow
namespace Go.Proofs.YtckmppkdpnhodaaGreatDoor
set_option linter.unusedVariables false
set_option linter.unusedSimpArgs false
open Go.RowKit Go.Proofs

theorem do_ok_rep {w : World} {rb n me : Nat} {log : List Cm} {F : Nat → Prop} {ev wv : Value} (hv : VerbsAt w) (hm : RepM w rb n me log F ev wv) (s : ByteArray) (hs : s.size ≤ maxLen) (cm : Cm) (hr : readC s = some cm) (hg : goesB (logCart log hm.le8 hm.ok) cm = true) (h8 : log.length < 8) :
    Calls Tryz.prog 20 #[.pointer (some ⟨rb, 0, none⟩), .string s] w fun e w' => e = .returned (.int .i64 0) ∧ w'.os = w.os ∧ w'.tape = w.tape ∧ w'.output = w.output ∧ w.heap.size ≤ w'.heap.size ∧ (∀ b, b < w.heap.size → ¬ F b → w'.heap[b]? = w.heap[b]?) ∧ RepR w' rb n me (log ++ [cm]) fun b => (b < w.heap.size ∧ F b) ∨ w.heap.size ≤ b := by
  refine (do_ok hv hm s hs cm hr hg h8).mono ?_
  rintro e w' ⟨rfl, hu, ev', wj, o1, o2, o3, o4, o5⟩
  have hrl := (Array.getElem?_eq_some_iff.1 hm.rbk).1
  refine ⟨rfl, hu.os, hu.tape, hu.output, hu.size, fun b hb hF => hu.block b hb fun hmem => ?_, ev', wj, ?_⟩
  · simp only [List.mem_cons, List.not_mem_nil, or_false, Option.some.injEq] at hmem
    rcases hmem with h | h | h
    · exact hF (h ▸ hm.rbF)
    · exact hF (hm.eF b h.symm).1
    · exact hF (hm.wF b h.symm).1
  have hF' : ∀ {v : Value} {b : Nat}, (∀ b, v.ownBlock = some b → F b) → (∀ b, v.ownBlock = some b → b < w.heap.size) → (v.ownBlock = some b ∨ w.heap.size ≤ b) → (b < w.heap.size ∧ F b) ∨ w.heap.size ≤ b := fun h1 h2 h => by
    rcases h with h | h
    · exact .inl ⟨h2 _ h, h1 _ h⟩
    · exact .inr h
  exact
    { hn := hm.hn
      hme := hm.hme
      le8 := by rw [List.length_append]; exact h8
      ok := fun c hc => by
        rcases List.mem_append.1 hc with h | h
        · exact hm.ok c h
        · simp only [List.mem_singleton] at h
          subst h
          exact (read_parts hr).1
      rbk := by rw [List.length_append]; exact o1
      rbF := .inl ⟨hrl, hm.rbF⟩
      erow := by rw [List.length_append]; exact o2
      eF := fun b hb => ⟨hF' (fun b h => (hm.eF b h).1) (fun b h => (hm.erow.lt b h).2) (o3 b hb).2, (o3 b hb).1⟩
      wrow := by rw [boxCells_eq, List.length_append]; exact o4
      wF := fun b hb => ⟨hF' (fun b h => (hm.wF b h).1) (fun b h => (hm.wrow.lt b h).2) (o5 b hb).2.2, (o5 b hb).1, (o5 b hb).2.1⟩ }

end Go.Proofs.YtckmppkdpnhodaaGreatDoor

namespace Go.Proofs.YtckmppkdpnhodaaGreatDoor
set_option linter.unusedVariables false
set_option linter.unusedSimpArgs false
open Go.RowKit Go.Proofs

/-- What stands of the packages' variables. -/
def Globs (w : World) : Prop := VerbsAt w ∧ PowAt w

theorem rep_code : Rep RepR Globs := {
  loc := repR_local
  new := new_does
  known := fun hG h => known_rep hG.1 h
  view := fun hG h => view_rep hG.1 hG.2 h
  bad := fun s hG h hs hr => by obtain ⟨ev, wv, hm⟩ := h; exact do_bad hG.1 hm s hs hr
  unk := fun {_ _ _ me _ _} s cm hG h hs hr hl => by obtain ⟨ev, wv, hm⟩ := h; exact do_unk hG.1 hm s hs cm hr (by rw [goes_lacks me, hl]; rfl)
  full := fun {_ _ _ me _ _} s cm hG h hs hr hl h8 => by obtain ⟨ev, wv, hm⟩ := h; exact do_full hG.1 hm s hs cm hr (by rw [goes_lacks me, hl]; rfl) h8
  ok := fun {_ _ _ me _ _} s cm hG h hs hr hl h8 => by obtain ⟨ev, wv, hm⟩ := h; exact do_ok_rep hG.1 hm s hs cm hr (by rw [goes_lacks me, hl]; rfl) h8 }

theorem Globs.below {w w' : World} (h : Globs w) (hb : Below w.heap.size w w') : Globs w' := ⟨h.1.below hb, h.2.below hb (Nat.le_refl _)⟩

theorem alone_code {w0 : World} (hG : Globs w0) {n : Int} {p : Option Addr} {cap : Nat} {sc : List Sp} (hn : -9223372036854775808 ≤ n ∧ n ≤ 9223372036854775807) (hl : sc.length ≤ 1000000000)
    (hok : ∀ o ∈ sc, o.ok ∧ (-9223372036854775808 ≤ o.A ∧ o.A ≤ 9223372036854775807) ∧ o.S.size ≤ maxLen) (hsc : ScriptAt w0 p sc) :
    Calls Tryz.prog 3 #[.int .i64 n, .slice p sc.length cap] w0 fun e w' => e = .returned (.bool true) ∧ Below w0.heap.size w0 w' :=
  alone_rep rep_code (fun _ hb => hG.below hb) hn hl hok hsc

end Go.Proofs.YtckmppkdpnhodaaGreatDoor

namespace Go.Proofs.YtckmppkdpnhodaaGreatDoor
set_option linter.unusedVariables false
set_option linter.unusedSimpArgs false
open Go.ChangeShapes Go.WideShapes Go.ChangeAt Go.RowKit

theorem Tryz.own : ownKnob Tryz.prog.godebug = none := by kernel_rfl
theorem Tryz.gVerbs : Tryz.prog.globalNamed "cartel/commands.verbs" = some 0 := by kernel_rfl
theorem Tryz.gVerbsT : (Tryz.prog.globals[0]?).map (·.type) = some 221 := by kernel_rfl
theorem Tryz.cVerbs : Tryz.prog.cellsOf 221 = 5 := by kernel_rfl
theorem Tryz.cString : Tryz.prog.cellsOf 9 = 1 := by kernel_rfl
theorem Tryz.gPowT : (Tryz.prog.globals[3]?).map (·.type) = some 287 := by kernel_rfl
theorem Tryz.cPow : Tryz.prog.cellsOf 287 = 20 := by kernel_rfl
theorem Tryz.cU64 : Tryz.prog.cellsOf 268 = 1 := by kernel_rfl

/-- What every row of this seat lists. -/
def theLaid : List (String × DataW Unit) := Rows.aloneUptoRow.laid

theorem globs_of {W : World} (h : laidMetH Tryz.prog theLaid W) : Globs W := by
  have h' : laidMet Tryz.prog theLaid W := h
  refine ⟨?_, tab_at Tryz.gPow Tryz.gPowT Tryz.underlying287 Tryz.underlying268 Tryz.cU64 Tryz.cPow h' (List.mem_cons_of_mem _ (List.mem_cons_of_mem _ (List.mem_cons_self ..)))⟩
  have hs := strs_at (zs := [[97, 100, 100], [114, 101, 109, 111, 118, 101], [97, 112, 112, 108, 121], [114, 101, 118, 111, 107, 101], [110, 111, 116, 101]]) Tryz.gVerbs Tryz.gVerbsT Tryz.underlying221 Tryz.underlying9 Tryz.cString Tryz.cVerbs h' (List.mem_cons_of_mem _ (List.mem_cons_of_mem _ (List.mem_cons_of_mem _ (List.mem_cons_self ..))))
  intro k
  cases k
  · exact hs 0 _ rfl
  · exact hs 1 _ rfl
  · exact hs 2 _ rfl
  · exact hs 3 _ rfl
  · exact hs 4 _ rfl

/-- A variable's block, with these cells in it. -/
def layCells (cs : Array Value) : Obj → Obj
  | .cells _ t frozen => .cells cs t frozen
  | o => o

theorem laid_met (os : Os) (args : Array Value) : laidMet Tryz.prog theLaid (({ World.holding Tryz.prog os ⟨#[], #[], []⟩ with heap := ((((((World.holding Tryz.prog os ⟨#[], #[], []⟩).heap.modify 0 (layCells #[.string ⟨#[97, 100, 100]⟩, .string ⟨#[114, 101, 109, 111, 118, 101]⟩, .string ⟨#[97, 112, 112, 108, 121]⟩, .string ⟨#[114, 101, 118, 111, 107, 101]⟩, .string ⟨#[110, 111, 116, 101]⟩])).modify 1 (layCells (([0, 498536548, 997073096, 651767980, 1994146192, 1802195444, 1303535960, 1342533948, 3988292384, 4027552580, 3604390888, 3412177804, 2607071920, 2262029012, 2685067896, 3183342108] : List Int).map fun z => Value.int .u32 z).toArray)).modify 3 (layCells (([1, 10, 100, 1000, 10000, 100000, 1000000, 10000000, 100000000, 1000000000, 10000000000, 100000000000, 1000000000000, 10000000000000, 100000000000000, 1000000000000000, 10000000000000000, 100000000000000000, 1000000000000000000, 10000000000000000000] : List Int).map fun z => Value.int .u64 z).toArray)).modify 4 (layCells (([0, 1, 28, 2, 29, 14, 24, 3, 30, 22, 20, 15, 25, 17, 4, 8, 31, 27, 13, 23, 21, 19, 16, 7, 26, 12, 18, 6, 11, 5, 10, 9] : List Int).map fun z => Value.int .u8 z).toArray)).modify 5 (layCells (([0, 1, 56, 2, 57, 49, 28, 3, 61, 58, 42, 50, 38, 29, 17, 4, 62, 47, 59, 36, 45, 43, 51, 22, 53, 39, 33, 30, 24, 18, 12, 5, 63, 55, 48, 27, 60, 41, 37, 16, 46, 35, 44, 21, 52, 32, 23, 11, 54, 26, 40, 15, 34, 20, 31, 10, 25, 14, 19, 9, 13, 8, 7, 6] : List Int).map fun z => Value.int .u8 z).toArray)) } : World).forCall (fun _ _ => 0) ⟨#[], args, []⟩).memory :=
  laidMet_of_run' 8 (by kernel_rfl) (by kernel_rfl)

end Go.Proofs.YtckmppkdpnhodaaGreatDoor

namespace Go.Proofs.YtckmppkdpnhodaaGreatDoor
set_option linter.unusedVariables false
set_option linter.unusedSimpArgs false
open Go.ChangeShapes Go.WideShapes Go.ChangeAt Go.RowKit Go.Deep

theorem Tryz.cOp : Tryz.prog.cellsOf 30 = 5 := by kernel_rfl
theorem Tryz.cInt : Tryz.prog.cellsOf 3 = 1 := by kernel_rfl
theorem Tryz.laidOut : laidOutB Tryz.prog = true := by kernel_rfl
theorem Tryz.opR : Tryz.prog.readableRec 30 = true := by kernel_rfl
theorem Tryz.opS : Tryz.prog.slicesRec 30 = false := by kernel_rfl
theorem Tryz.opI : Tryz.prog.ifacesRec 30 = false := by kernel_rfl
theorem Tryz.opV : Tryz.prog.veiledRec 30 = false := by kernel_rfl
theorem Tryz.opL : 30 < Tryz.prog.types.size := of_decide_eq_true (by kernel_rfl)

section
variable {H : Type} {enc : TypeId × Value → H} {W W' : World} {base : Nat} {sp : Nat → Bool} {hd : Bool}

theorem i64_of {z : Int} (h : (Lit.int .i64 z).wf = true) : -9223372036854775808 ≤ z ∧ z ≤ 9223372036854775807 := by
  have h1 := (Lit.wf_int_iff .i64 z).1 h
  have e1 : IntKind.i64.min = -9223372036854775808 := by decide +kernel
  have e2 : IntKind.i64.max = 9223372036854775807 := by decide +kernel
  rw [e1, e2] at h1
  exact h1

set_option maxRecDepth 100000 in
theorem sp_of {n : Nat} {cs : List Value} {x : DataW H × List MemPlace} (h : DataW.trod enc Tryz.prog W base sp hd n 30 cs = some x) :
    ∃ o : Sp, cs = [.int .i64 o.K, .int .i64 o.A, .int .i64 o.B, .int .i64 o.C, .string o.S] ∧ o.ok ∧ (-9223372036854775808 ≤ o.A ∧ o.A ≤ 9223372036854775807) ∧ o.S.size ≤ maxLen := by
  obtain ⟨xs, k, -, -, hl, hxl, hf⟩ := DataW.trod_struct Tryz.underlying30 h
  rw [Tryz.cOp] at hl
  match cs, hl with
  | [v0, v1, v2, v3, v4], _ =>
    match xs, hxl with
    | [y0, y1, y2, y3, y4], _ =>
      have g0 : DataW.trod enc Tryz.prog W base sp hd k 3 (([v0, v1, v2, v3, v4].drop 0).take (Tryz.prog.cellsOf 3)) = some y0 := hf 0 _ rfl
      have g1 : DataW.trod enc Tryz.prog W base sp hd k 3 (([v0, v1, v2, v3, v4].drop 1).take (Tryz.prog.cellsOf 3)) = some y1 := hf 1 _ rfl
      have g2 : DataW.trod enc Tryz.prog W base sp hd k 3 (([v0, v1, v2, v3, v4].drop 2).take (Tryz.prog.cellsOf 3)) = some y2 := hf 2 _ rfl
      have g3 : DataW.trod enc Tryz.prog W base sp hd k 3 (([v0, v1, v2, v3, v4].drop 3).take (Tryz.prog.cellsOf 3)) = some y3 := hf 3 _ rfl
      have g4 : DataW.trod enc Tryz.prog W base sp hd k 9 (([v0, v1, v2, v3, v4].drop 4).take (Tryz.prog.cellsOf 9)) = some y4 := hf 4 _ rfl
      rw [Tryz.cInt] at g0 g1 g2 g3
      rw [Tryz.cString] at g4
      obtain ⟨z0, e0, -, w0⟩ := DataW.trod_int Tryz.underlying3 g0
      obtain ⟨z1, e1, -, w1⟩ := DataW.trod_int Tryz.underlying3 g1
      obtain ⟨z2, e2, -, w2⟩ := DataW.trod_int Tryz.underlying3 g2
      obtain ⟨z3, e3, -, w3⟩ := DataW.trod_int Tryz.underlying3 g3
      obtain ⟨s, e4, -, w4⟩ := DataW.trod_string Tryz.underlying9 g4
      simp at e0 e1 e2 e3 e4
      subst e0 e1 e2 e3 e4
      exact ⟨⟨z0, z1, z2, z3, s⟩, rfl, i64_of w0, i64_of w1, w4⟩

/-- The script that came in. -/
theorem script_of {n : Nat} {cs : List Value} {x : DataW H × List MemPlace} (h : DataW.trod enc Tryz.prog W base (fun _ => true) hd n 22 cs = some x) :
    ∃ (p : Option Addr) (cap : Nat) (sc : List Sp), cs = [.slice p sc.length cap] ∧ ScriptAt W p sc ∧ (∀ o ∈ sc, o.ok ∧ (-9223372036854775808 ≤ o.A ∧ o.A ≤ 9223372036854775807) ∧ o.S.size ≤ maxLen) ∧ sc.length ≤ Rows.uptoBulk x.1 := by
  rcases open_slice Tryz.underlying22 h with ⟨rfl, rfl⟩ | ⟨a, len, cap, m, n, D, Pl, rfl, h0, hl, hm, hmm, rfl, hi⟩
  · exact ⟨none, 0, [], rfl, fun i o ho => by simp at ho, fun o ho => by simp at ho, Nat.zero_le _⟩
  · simp only [if_true] at hmm
    subst hmm
    rw [Tryz.cOp] at hi
    have each : ∀ i, i < m → ∃ o : Sp, W.cells? base (a.add (i * 5)) 5 = some [.int .i64 o.K, .int .i64 o.A, .int .i64 o.B, .int .i64 o.C, .string o.S] ∧ o.ok ∧ (-9223372036854775808 ≤ o.A ∧ o.A ≤ 9223372036854775807) ∧ o.S.size ≤ maxLen := fun i him => by
      obtain ⟨cs', h1, h2⟩ := hi i him
      obtain ⟨o, rfl, h3⟩ := sp_of h2
      exact ⟨o, h1, h3⟩
    obtain ⟨f, hf⟩ := Classical.skolem.1 (fun i => (show ∃ o : Sp, i < m → _ from if him : i < m then (each i him).elim fun o ho => ⟨o, fun _ => ho⟩ else ⟨⟨0, 0, 0, 0, ⟨#[]⟩⟩, fun h => absurd h him⟩))
    refine ⟨some a, m, (List.range len).map f, by simp, fun i o ho => ?_, fun o ho => ?_, ?_⟩
    · have hil : i < len := by
        have := (List.getElem?_eq_some_iff.1 ho).1
        simpa using this
      have hio : o = f i := by
        rw [List.getElem?_map, List.getElem?_range hil] at ho
        simpa using ho.symm
      subst hio
      obtain ⟨-, -, hc⟩ := World.cells?_some (hf i (by omega)).1
      have hsp : a.spot = none := by
        have := World.cell?_spot ((World.cells?_some (hf 0 (by omega)).1).2.2 0 (by omega))
        simpa [Addr.add] using this
      obtain ⟨b, off, spot⟩ := a
      simp only at hsp
      subst hsp
      have e : ∀ j, j < 5 → W.cell? ⟨b, off + i * 5 + j, none⟩ = [Value.int .i64 (f i).K, .int .i64 (f i).A, .int .i64 (f i).B, .int .i64 (f i).C, .string (f i).S][j]? := fun j hj => by
        have := hc j hj
        rw [add_add] at this
        rw [← this]
        unfold Addr.add
        split
        · rename_i h0
          have : i * 5 + j = 0 := h0
          simp [Nat.add_assoc, this]
        · simp [Nat.add_assoc]
      exact ⟨b, off, rfl, e 0 (by omega), e 1 (by omega), e 2 (by omega), e 3 (by omega), e 4 (by omega)⟩
    · obtain ⟨i, hi', rfl⟩ := List.mem_map.1 ho
      exact (hf i (by have := List.mem_range.1 hi'; omega)).2
    · simp only [Rows.uptoBulk]
      have : ∀ l : List (DataW H), l.length ≤ Rows.uptoBulkAll l := fun l => by
        induction l with
        | nil => simp [Rows.uptoBulkAll]
        | cons d r ih =>
          have h1 : 1 ≤ Rows.uptoBulk d := by
            cases d with
            | lit l => cases l <;> simp [Rows.uptoBulk]
            | nil => simp [Rows.uptoBulk]
            | ptr d => simp [Rows.uptoBulk]
            | slice elems spare => simp [Rows.uptoBulk]
            | agg parts => simp [Rows.uptoBulk]
            | iface t d => simp [Rows.uptoBulk]
            | map entries => simp [Rows.uptoBulk]
            | held h => simp [Rows.uptoBulk]
          simp only [Rows.uptoBulkAll, List.length_cons]
          omega
      have := this ((List.range len).map D)
      simp only [List.length_map, List.length_range] at this ⊢
      omega

theorem script_again {n : Nat} {cs : List Value} {x : DataW H × List MemPlace} (hb : Below W.heap.size W W') (h : DataW.trod enc Tryz.prog W 0 (fun _ => true) true n 22 cs = some x) (hp : ∀ q ∈ x.2, q.block < W.heap.size) :
    ∃ m, DataW.trod enc Tryz.prog W' 0 (fun b => decide (b < W.heap.size)) true m 22 cs = some x :=
  slice_again Tryz.underlying22 hb (by rw [Tryz.cOp]; omega) (fun n _ _ h hq => ⟨n, trod_any Tryz.laidOut Tryz.opR Tryz.opL Tryz.opS Tryz.opI h (fun p hp => same_below hb (hq p hp)) Tryz.opV⟩) h hp

end

set_option maxRecDepth 100000 in
/-- What the walk gives, for every argument and every world that holds the tables. -/
theorem alone_contract (H : Type) (enc : TypeId × Value → H) (W : World) (base : Nat) (args : Array Value) (ds gs : List (DataW H)) (before : List MemPlace)
    (hval : ∀ (j : Nat) t v, Tryz.f3.params[j]? = some t → args[j]? = some v → Value.okWide Tryz.prog W .any base t v)
    (hW : DataW.Whole enc Tryz.prog Tryz.f3.params.toList Rows.aloneSpec.vars false W args.toList ds gs before) (hL : laidMetH Tryz.prog theLaid W) (hk : Rows.uptoSmall H (ds ++ gs) = true) :
    Calls Tryz.prog 3 args W fun e W' => ∃ v, e = .returned v ∧ Rows.aloneSpec.post enc Tryz.prog Tryz.f3 false true false false W args v W' := by
  have hW' := hW
  obtain ⟨p, q, hA0, hV, rfl, hfz, hnd⟩ := hW
  have hlt := hA0.lt
  have hA : DataW.TrodAll enc Tryz.prog W 0 (fun _ => true) true Tryz.f3.params.toList args.toList ds p := hA0
  rw [Tryz.params3] at hA hval
  obtain ⟨v0, vs0, d0, ds0, p0, q0, hargs, rfl, rfl, h0, r0⟩ := trodAll_cons hA
  obtain ⟨v1, vs1, d1, ds1, p1, q1, rfl, rfl, rfl, h1, r1⟩ := trodAll_cons r0
  obtain ⟨rfl, rfl, rfl⟩ := trodAll_nil r1
  obtain rfl : args = #[v0, v1] := by cases args; simp_all
  obtain ⟨rfl, rfl⟩ := trodVars_none hV
  obtain ⟨n, rfl, rfl, rfl, hn⟩ := open_int Tryz.underlying3 (hval 0 3 v0 rfl rfl) h0
  obtain ⟨a1, l1, c1, rfl⟩ := okWide_slice Tryz.underlying22 (hval 1 22 v1 rfl rfl)
  obtain ⟨fuel, hf⟩ := h1
  obtain ⟨p', cap, sc, hcs, hsc, hok, hlen⟩ := script_of hf
  rw [List.append_nil] at hk
  have hbulk : Rows.uptoBulkAll ([DataW.lit (.int .i64 n), d1] : List (DataW H)) ≤ 1048576 := of_decide_eq_true hk
  simp only [Rows.uptoBulkAll] at hbulk
  have hlen' : sc.length ≤ Rows.uptoBulk d1 := hlen
  simp only [Value.cells] at hcs
  obtain ⟨rfl, rfl, rfl⟩ : a1 = p' ∧ l1 = sc.length ∧ c1 = cap := by simpa using hcs
  refine (alone_code (globs_of hL) (i64_of hn) (by omega) hok hsc).mono ?_
  rintro e W' ⟨rfl, hb⟩
  obtain ⟨m, hm⟩ := script_again hb hf (fun q hq => hlt q (by simp [hq]))
  refine ⟨_, rfl, post_true (p := [] ++ (p1 ++ [])) hW' (by kernel_rfl) Tryz.underlying4 rfl rfl rfl rfl hb ?_⟩
  · rw [Tryz.params3]
    exact trodAll_cons_mk (shut_int Tryz.underlying3 hn) (trodAll_cons_mk ⟨m, hm⟩ trodAll_mk0)

end Go.Proofs.YtckmppkdpnhodaaGreatDoor
