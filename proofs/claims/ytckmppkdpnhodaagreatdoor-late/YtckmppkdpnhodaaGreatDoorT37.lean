/-
  (*group).alike. Notes, purely: the carts. A group as the statements hold it: what each call does. Notes. What the rows' list gives, for replicas that hear of each other; Notes: its card. All that was done in a network; where all know all, each log holds just that. Wins, purely: the carts. Wins: what each of its calls does. Wins. Wins: its card. Two groups at once. Two groups in which the same is done. An act's text. Order: what each of its calls does. Order: its acts in memory, its last calls. Order. Acts that come in.
-/
import Derived.Test.YtckmppkdpnhodaaGreatDoorT36
import Derived.Test.YtckmppkdpnhodaaGreatDoorT01
import Derived.Test.YtckmppkdpnhodaaGreatDoorCards
import Derived.Test.YtckmppkdpnhodaaGreatDoorTie
import Derived.ProofKit
import Derived.Deep.DeepHandedRow
namespace Go.Proofs.YtckmppkdpnhodaaGreatDoor
set_option linter.unusedVariables false
set_option linter.unusedSimpArgs false
open Go.RowKit Go.Proofs

attribute [local go_sem ↓] Go.wp_at_zero Go.wp_at_succ

theorem textIs_unique {C : CartS} {s t : ByteArray} (hs : TextIs C s) (ht : TextIs C t) : s = t := by
  obtain ⟨a1, a2, a3, ⟨p1, q1⟩, ⟨p2, q2⟩, ⟨p3, q3⟩, e⟩ := hs
  obtain ⟨b1, b2, b3, ⟨r1, s1⟩, ⟨r2, s2⟩, ⟨r3, s3⟩, f⟩ := ht
  have e1 := sorted_unique a1 b1 p1 r1 fun x => (q1 x).trans (s1 x).symm
  have e2 := sorted_unique a2 b2 p2 r2 fun x => (q2 x).trans (s2 x).symm
  have e3 := sorted_unique a3 b3 p3 r3 fun x => (q3 x).trans (s3 x).symm
  subst e1 e2 e3
  exact bytes_ext (e.trans f.symm)

theorem LogFrom.nodup {me : Nat} : ∀ {l pre : List En}, LogFrom me pre l → (∀ x ∈ l, cntL pre x.org < x.seq) ∧ l.Nodup
  | [], _, _ => ⟨by simp, List.nodup_nil⟩
  | x :: l, pre, h => by
    obtain ⟨h1, h2⟩ := LogFrom.nodup (l := l) h.2
    have hx := h.1.1
    refine ⟨fun y hy => ?_, List.nodup_cons.2 ⟨fun hm => ?_, h2⟩⟩
    · rcases List.mem_cons.1 hy with rfl | hy
      · omega
      · have := h1 y hy
        rw [cntL_append] at this
        omega
    · have := h1 x hm
      rw [cntL_snoc, if_pos rfl] at this
      omega

/-- Where all know all, all logs hold the same. -/
theorem AllKnow.perm {n : Nat} {S : Nat → Sr} (h : AllKnow n S) (hS : NetOk n S) {i j : Nat} (hi : i < n) (hj : j < n) : (S i).log.Perm (S j).log := by
  have key : ∀ {i j : Nat}, i < n → j < n → ∀ x ∈ (S i).log, x ∈ (S j).log := fun {i j} hi hj x hx => by
    have ho := (hS.one i hi).org x hx
    have hp := (hS.one i hi).log.place hx
    have c1 := h.cnt hS ho hi
    have c2 := h.cnt hS ho hj
    obtain ⟨y, hy, h1, h2⟩ := (hS.one j hj).log.the (o := x.org) (s := x.seq) hp.1 (by omega)
    have hx' := hS.src i hi x hx
    have hy' := hS.src j hj y hy
    rw [h1] at hy'
    rw [(hS.one _ ho).log.uniq hx' hy' h1.symm h2.symm]
    exact hy
  exact (List.perm_ext_iff_of_nodup (hS.one i hi).log.nodup.2 (hS.one j hj).log.nodup.2).2 fun x => ⟨key hi hj x, key hj hi x⟩

set_option maxRecDepth 100000 in
set_option maxHeartbeats 4000000 in
theorem alikeG {w0 W : World} {n LB NB : Nat} {S : Nat → Sr} {d : Side} {gb pb pc : Nat} (h : Grp w0 n LB NB S d gb pb pc W) (hg : Glob w0) (N : Nat) (hN : ∀ i, i < n → (S i).log.length = N) (C : CartS) (hC : ∀ i, i < n → cartG (S i).log (S i).log = C) :
    Calls Tryz.prog 22 #[.pointer (some ⟨gb, 0, none⟩), .int .i64 (N : Int)] W fun e w' => e = .returned (.bool true) ∧ Below W.heap.size W w' := by
  have hn5 := h.net.fit.n5
  have hn0 : (0 : Int) < (n : Int) := by omega
  have HG : Hid (∀ W', Below W.heap.size W W' → Grp w0 n LB NB S d gb pb pc W') := fun W' hW => h.below hW
  have HV : Hid (∀ i, i < n → ∀ W', Below W.heap.size W W' → Calls Tryz.prog 23 #[.pointer (some ⟨d.rb i, 0, none⟩)] W' fun e w' => ∃ s, e = .returned (.string s) ∧ Hid (TextIs C s) ∧ Below W.heap.size W w') := fun i hi W' hW => by
    refine (viewN (h.below hW).net hg hi).mono ?_
    rintro e w' ⟨s, he, ht, hb⟩
    rw [hC i hi] at ht
    exact ⟨s, he, ht, hW.trans (hb.mono hW.size)⟩
  have HK : Hid (∀ i, i < n → ∀ W', Below W.heap.size W W' → Calls Tryz.prog 28 #[.pointer (some ⟨d.rb i, 0, none⟩)] W' fun e w' => ∃ p c, e = .returned (.slice p N c) ∧ Below W.heap.size W w') := fun i hi W' hW => by
    refine (knownN (h.below hW).net hg hi).mono ?_
    rintro e w' ⟨p, c, he, -, hb⟩
    rw [hN i hi] at he
    exact ⟨p, c, he, hW.trans (hb.mono hW.size)⟩
  have c0 := h.c0
  have cp := h.ptr 0 (by omega)
  have HV0H : Hid (Calls Tryz.prog 23 #[.pointer (some ⟨d.rb 0, 0, none⟩)] W fun e w' => ∃ s, e = .returned (.string s) ∧ Hid (TextIs C s) ∧ Below W.heap.size W w') := HV.out 0 (by omega) W (Below.refl _ _)
  clear h hg hN hC
  generalize d.rb 0 = r0 at cp HV0H
  go_enter Tryz.func22, Tryz.ntmps22
  go_wp2_with (go_at_call 23; refine HV0H.out.mono ?_; rintro e w2 ⟨s0, rfl, HT0, hb2⟩)
  clear c0 cp
  go_loopw [6] (fun v wr => ∃ k : Nat, k ≤ n ∧ v = .int .i64 (k : Int) ∧ Hid (Below W.heap.size W wr)) (fun v _ => n - (intOf v).toNat)
  case atStart => exact ⟨0, by omega, rfl, hb2⟩
  case round =>
    obtain ⟨k, hk, rfl, HB⟩ := hrel
    have g0 := (HG.out wr HB.out).c0
    by_cases hlt : k < n
    · have gp := (HG.out wr HB.out).ptr k hlt
      have hki : (k : Int) < (n : Int) := by omega
      have HVk : Hid (Calls Tryz.prog 23 #[.pointer (some ⟨d.rb k, 0, none⟩)] wr fun e w' => e = .returned (.string s0) ∧ w'.cell? ⟨gb, 0, none⟩ = some (.slice (some ⟨pb, 0, none⟩) n pc) ∧ w'.cell? ⟨pb, k, none⟩ = some (.pointer (some ⟨d.rb k, 0, none⟩)) ∧ Hid (Below W.heap.size W w')) := by
        refine (HV.out k hlt wr HB.out).mono ?_
        rintro e w' ⟨s, he, ht, hb⟩
        have hg' := HG.out w' hb
        rw [textIs_unique ht.out HT0.out] at he
        exact ⟨he, hg'.c0, hg'.ptr k hlt, hb⟩
      have HKk : Hid (∀ W', Below W.heap.size W W' → Calls Tryz.prog 28 #[.pointer (some ⟨d.rb k, 0, none⟩)] W' fun e w' => ∃ p c, e = .returned (.slice p N c) ∧ Hid (Below W.heap.size W w')) := fun W' hW => HK.out k hlt W' hW
      generalize d.rb k = rbk at *
      go_wp2_with (first
        | (go_at_call 23; refine HVk.out.mono ?_; rintro e w3 ⟨rfl, k0, k1, HB3⟩)
        | (go_at_call 28; refine (HKk.out w3 HB3.out).mono ?_; rintro e w4 ⟨pk, ck, rfl, HB4⟩))
      go_roundw
      case rel => exact ⟨k + 1, by omega, by go_num, HB4⟩
      case measure => simp [intOf]; omega
    · obtain rfl : k = n := by omega
      go_wp2
      go_ret
      exact ⟨rfl, HB.out⟩

end Go.Proofs.YtckmppkdpnhodaaGreatDoor

namespace Go.Proofs.YtckmppkdpnhodaaGreatDoor
set_option linter.unusedVariables false
set_option linter.unusedSimpArgs false
open Go.RowKit Go.Proofs

end Go.Proofs.YtckmppkdpnhodaaGreatDoor

namespace Go.Proofs.YtckmppkdpnhodaaGreatDoor
set_option linter.unusedVariables false
set_option linter.unusedSimpArgs false
open Go.RowKit Go.Proofs

/-- A group whose replicas lie where rbs tells; what was there ahead of it stands. -/
def GrpR (w0 : World) (n LB NB gb pb pc : Nat) (rbs : Nat → Nat) (S : Nat → Sr) (W : World) : Prop :=
  ∃ d : Side, (∀ i, d.rb i = rbs i) ∧ Grp w0 n LB NB S d gb pb pc W ∧ W.os = w0.os ∧ W.tape = w0.tape ∧ W.output = w0.output

section
variable {w0 W W' : World} {n LB NB gb pb pc : Nat} {rbs : Nat → Nat} {S : Nat → Sr}

theorem GrpR.c0 (h : GrpR w0 n LB NB gb pb pc rbs S W) : W.cell? ⟨gb, 0, none⟩ = some (.slice (some ⟨pb, 0, none⟩) n pc) := by
  obtain ⟨d, -, hg, -⟩ := h
  exact hg.c0

theorem GrpR.ptr (h : GrpR w0 n LB NB gb pb pc rbs S W) {i : Nat} (hi : i < n) : W.cell? ⟨pb, i, none⟩ = some (.pointer (some ⟨rbs i, 0, none⟩)) := by
  obtain ⟨d, hr, hg, -⟩ := h
  rw [← hr i]
  exact hg.ptr i hi

end

theorem begunR (n : Nat) (hn : 2 ≤ n ∧ n ≤ 5) (w : World) {LB NB : Nat} (hLB : LB ≤ 4294900000) (hNB : NB ≤ 1000000000000000) : Calls Tryz.prog 19 #[.int .i64 (n : Int)] w fun e w' => ∃ gb pb pc rbs, e = .returned (.pointer (some ⟨gb, 0, none⟩)) ∧ GrpR w n LB NB gb pb pc rbs (fun _ => Sr.empty) w' := by
  refine (begunG n hn w).mono ?_
  rintro e w' ⟨rbs, lv, he, hl, hB⟩
  obtain ⟨d, pb, pc, hg⟩ := hB.grp' (w0 := w) hn hl rfl (Nat.le_refl _) (fun _ _ => rfl) hLB hNB
  exact ⟨_, pb, pc, d.rb, he, d, fun _ => rfl, hg, hB.bel.os, hB.bel.tape, hB.bel.output⟩

set_option maxHeartbeats 400000 in
theorem pickK (c n : Int) (w : World) (hc : -9223372036854775808 ≤ c ∧ c ≤ 9223372036854775807) (hn : 0 < n ∧ n ≤ 100) :
    Calls Tryz.prog 18 #[.int .i64 c, .int .i64 n] w fun e w' => e = .returned (.int .i64 (pickN c n : Int)) ∧ w' = w := by
  obtain ⟨hc1, hc2⟩ := hc
  obtain ⟨hn1, hn2⟩ := hn
  have HP : Hid ((pickN c n : Int) = (if c < 0 then -(c + 1) else c) % n) := pickN_int hn1
  by_cases h : c < 0
  · have hp : 0 ≤ -(c + 1) := by omega
    go_enter Tryz.func18, Tryz.ntmps18
    go_wp2
    go_ret
    refine ⟨ret_int ?_, rfl⟩
    rw [HP.out, if_pos h, ← Int.neg_tmod, Int.tmod_eq_emod_of_nonneg hp]
  · go_enter Tryz.func18, Tryz.ntmps18
    go_wp2
    go_ret
    exact ⟨ret_int (by rw [HP.out, if_neg (by omega)]), rfl⟩

end Go.Proofs.YtckmppkdpnhodaaGreatDoor

namespace Go.Proofs.YtckmppkdpnhodaaGreatDoor
set_option linter.unusedVariables false
set_option linter.unusedSimpArgs false
open Go.RowKit Go.Proofs

attribute [local go_sem ↓] Go.wp_at_zero Go.wp_at_succ

end Go.Proofs.YtckmppkdpnhodaaGreatDoor

namespace Go.Proofs.YtckmppkdpnhodaaGreatDoor
set_option linter.unusedVariables false
set_option linter.unusedSimpArgs false
open Go.ChangeShapes Go.WideShapes Go.ChangeAt Go.RowKit Go.Deep

theorem Tryz.ownK : ownKnob Tryz.prog.godebug = none := by kernel_rfl
theorem Tryz.gVerbsK : Tryz.prog.globalNamed "cartel/commands.verbs" = some 0 := by kernel_rfl
theorem Tryz.gVerbsTK : (Tryz.prog.globals[0]?).map (·.type) = some 221 := by kernel_rfl
theorem Tryz.cVerbsK : Tryz.prog.cellsOf 221 = 5 := by kernel_rfl
theorem Tryz.cStringK : Tryz.prog.cellsOf 9 = 1 := by kernel_rfl
theorem Tryz.gPowTK : (Tryz.prog.globals[3]?).map (·.type) = some 287 := by kernel_rfl
theorem Tryz.cPowK : Tryz.prog.cellsOf 287 = 20 := by kernel_rfl
theorem Tryz.cU64K : Tryz.prog.cellsOf 268 = 1 := by kernel_rfl
theorem Tryz.gRemK : Tryz.prog.globalNamed "cartel/wire.remainders" = some 1 := by kernel_rfl
theorem Tryz.gRemTK : (Tryz.prog.globals[1]?).map (·.type) = some 255 := by kernel_rfl
theorem Tryz.cRemK : Tryz.prog.cellsOf 255 = 16 := by kernel_rfl
theorem Tryz.cU32K : Tryz.prog.cellsOf 96 = 1 := by kernel_rfl

/-- What every row of this seat lists. -/
def laidK : List (String × DataW Unit) := Rows.notesRow.laid

theorem glob_of {W : World} (h : laidMetH Tryz.prog laidK W) : Glob W := by
  have h' : laidMet Tryz.prog laidK W := h
  have hp : PowAt W := tab_at Tryz.gPow Tryz.gPowTK Tryz.underlying287 Tryz.underlying268 Tryz.cU64K Tryz.cPowK h' (List.mem_cons_of_mem _ (List.mem_cons_of_mem _ (List.mem_cons_self ..)))
  have hr : Lib.TabIs Tryz.prog W "cartel/wire.remainders" .u32 (remTab.map fun n => ((n : Nat) : Int)) := tab_at Tryz.gRemK Tryz.gRemTK Tryz.underlying255 Tryz.underlying96 Tryz.cU32K Tryz.cRemK h' (List.mem_cons_of_mem _ (List.mem_cons_of_mem _ (List.mem_cons_of_mem _ (List.mem_cons_of_mem _ (List.mem_cons_self ..)))))
  have hs := strs_at (zs := [[97, 100, 100], [114, 101, 109, 111, 118, 101], [97, 112, 112, 108, 121], [114, 101, 118, 111, 107, 101], [110, 111, 116, 101]]) Tryz.gVerbsK Tryz.gVerbsTK Tryz.underlying221 Tryz.underlying9 Tryz.cStringK Tryz.cVerbsK h' (List.mem_cons_of_mem _ (List.mem_cons_of_mem _ (List.mem_cons_of_mem _ (List.mem_cons_self ..))))
  have hv : VerbsAt W := fun k => by
    cases k
    · exact hs 0 _ rfl
    · exact hs 1 _ rfl
    · exact hs 2 _ rfl
    · exact hs 3 _ rfl
    · exact hs 4 _ rfl
  have hR : RemAt W := fun i hi => by
    have hl : (remTab.map fun n => ((n : Nat) : Int)).length = 16 := by decide
    have h1 := Lib.TabIs.cell hr Tryz.gRemK i (by rw [hl]; exact hi)
    have h2 : ∀ i, i < 16 → (remTab.map fun n => ((n : Nat) : Int)).getD i 0 = ((remTab.getD i 0 : Nat) : Int) := by decide
    rw [h2 i hi] at h1
    exact h1
  exact ⟨hv, hp, hR, World.block_lt_of_cell? W _ (hv .closed), World.block_lt_of_cell? W _ (hR 0 (by omega))⟩

/-- A variable's block, with these cells in it. -/
def layCells (cs : Array Value) : Obj → Obj
  | .cells _ t frozen => .cells cs t frozen
  | o => o

theorem laid_metK (os : Os) (args : Array Value) : laidMet Tryz.prog laidK (({ World.holding Tryz.prog os ⟨#[], #[], []⟩ with heap := ((((((World.holding Tryz.prog os ⟨#[], #[], []⟩).heap.modify 0 (layCells #[.string ⟨#[97, 100, 100]⟩, .string ⟨#[114, 101, 109, 111, 118, 101]⟩, .string ⟨#[97, 112, 112, 108, 121]⟩, .string ⟨#[114, 101, 118, 111, 107, 101]⟩, .string ⟨#[110, 111, 116, 101]⟩])).modify 1 (layCells (([0, 498536548, 997073096, 651767980, 1994146192, 1802195444, 1303535960, 1342533948, 3988292384, 4027552580, 3604390888, 3412177804, 2607071920, 2262029012, 2685067896, 3183342108] : List Int).map fun z => Value.int .u32 z).toArray)).modify 3 (layCells (([1, 10, 100, 1000, 10000, 100000, 1000000, 10000000, 100000000, 1000000000, 10000000000, 100000000000, 1000000000000, 10000000000000, 100000000000000, 1000000000000000, 10000000000000000, 100000000000000000, 1000000000000000000, 10000000000000000000] : List Int).map fun z => Value.int .u64 z).toArray)).modify 4 (layCells (([0, 1, 28, 2, 29, 14, 24, 3, 30, 22, 20, 15, 25, 17, 4, 8, 31, 27, 13, 23, 21, 19, 16, 7, 26, 12, 18, 6, 11, 5, 10, 9] : List Int).map fun z => Value.int .u8 z).toArray)).modify 5 (layCells (([0, 1, 56, 2, 57, 49, 28, 3, 61, 58, 42, 50, 38, 29, 17, 4, 62, 47, 59, 36, 45, 43, 51, 22, 53, 39, 33, 30, 24, 18, 12, 5, 63, 55, 48, 27, 60, 41, 37, 16, 46, 35, 44, 21, 52, 32, 23, 11, 54, 26, 40, 15, 34, 20, 31, 10, 25, 14, 19, 9, 13, 8, 7, 6] : List Int).map fun z => Value.int .u8 z).toArray)) } : World).forCall (fun _ _ => 0) ⟨#[], args, []⟩).memory :=
  laidMet_of_run' 8 (by kernel_rfl) (by kernel_rfl)

theorem i64K {z : Int} (h : (Lit.int .i64 z).wf = true) : -9223372036854775808 ≤ z ∧ z ≤ 9223372036854775807 := by
  have h1 := (Lit.wf_int_iff .i64 z).1 h
  have e1 : IntKind.i64.min = -9223372036854775808 := by decide +kernel
  have e2 : IntKind.i64.max = 9223372036854775807 := by decide +kernel
  rw [e1, e2] at h1
  exact h1

end Go.Proofs.YtckmppkdpnhodaaGreatDoor

namespace Go.Proofs.YtckmppkdpnhodaaGreatDoor
set_option linter.unusedVariables false
set_option linter.unusedSimpArgs false
open Go.RowKit Go.Proofs

/-- What all replicas have done. -/
def unionS (n : Nat) (S : Nat → Sr) : List En := (List.range n).flatMap fun i => ownL i (S i).log

/-- The network as it stands: what was done, the clock. -/
structure Sit (n : Nat) (S : Nat → Sr) (L : List En) (now : Nat) : Prop where
  un : (unionS n S).Perm L
  tot : totalS n S = L.length
  now : ∀ i, i < n → (S i).now = now

theorem Sit.empty (n : Nat) : Sit n (fun _ => Sr.empty) [] 0 := by
  refine ⟨?_, ?_, fun _ _ => rfl⟩
  · have : unionS n (fun _ => Sr.empty) = [] := by simp [unionS, ownL, Sr.empty]
    rw [this]
  · have : ∀ m, totalS m (fun _ => Sr.empty) = 0 := fun m => by
      unfold totalS
      induction m with
      | zero => rfl
      | succ m ih => rw [sumTo_succ, ih]; rfl
    exact this n

section
variable {w0 W : World} {n LB NB gb pb pc : Nat} {rbs : Nat → Nat} {S : Nat → Sr} {L : List En} {now : Nat}

end

end Go.Proofs.YtckmppkdpnhodaaGreatDoor

namespace Go.Proofs.YtckmppkdpnhodaaGreatDoor
set_option linter.unusedVariables false
set_option linter.unusedSimpArgs false
open Go.RowKit Go.Proofs

section
variable {a b : Nat} {x1 x2 x3 x4 x5 x6 x7 : En}

end

end Go.Proofs.YtckmppkdpnhodaaGreatDoor

namespace Go.Proofs.YtckmppkdpnhodaaGreatDoor
set_option linter.unusedVariables false
set_option linter.unusedSimpArgs false
open Go.RowKit Go.Proofs

section
variable {W : World} {n gb pb pc : Nat} {rbs : Nat → Nat} {a b : Nat}

end

end Go.Proofs.YtckmppkdpnhodaaGreatDoor

namespace Go.Proofs.YtckmppkdpnhodaaGreatDoor
set_option linter.unusedVariables false
set_option linter.unusedSimpArgs false
open Go.RowKit Go.Proofs

attribute [local go_sem ↓] Go.wp_at_zero Go.wp_at_succ

end Go.Proofs.YtckmppkdpnhodaaGreatDoor

namespace Go.Proofs.YtckmppkdpnhodaaGreatDoor
set_option linter.unusedVariables false
set_option linter.unusedSimpArgs false
open Go.ChangeShapes Go.WideShapes Go.ChangeAt Go.RowKit Go.Deep

end Go.Proofs.YtckmppkdpnhodaaGreatDoor

namespace Go.Proofs.YtckmppkdpnhodaaGreatDoor
set_option linter.unusedVariables false
set_option linter.unusedSimpArgs false
open Go.RowKit Go.Proofs

section
variable {w0 W W' : World} {n LB LB' NB : Nat} {S S' S2 S2' : Nat → Sr} {d d' d2 d2' : Side} {g1 p1 c1 g2 p2 c2 : Nat}

end

section
variable {w0 W W' : World} {n LB NB g1 p1 c1 g2 p2 c2 : Nat} {r1 r2 : Nat → Nat} {S S2 : Nat → Sr}

end

end Go.Proofs.YtckmppkdpnhodaaGreatDoor

namespace Go.Proofs.YtckmppkdpnhodaaGreatDoor
set_option linter.unusedVariables false
set_option linter.unusedSimpArgs false
open Go.RowKit Go.Proofs

end Go.Proofs.YtckmppkdpnhodaaGreatDoor

namespace Go.Proofs.YtckmppkdpnhodaaGreatDoor
set_option linter.unusedVariables false
set_option linter.unusedSimpArgs false
open Go.RowKit Go.Proofs

attribute [local go_sem ↓] Go.wp_at_zero Go.wp_at_succ

def wordA (w : Nat) : ByteArray := if w = 0 then ⟨#[116, 101, 97]⟩ else if w = 1 then ⟨#[109, 105, 108, 107]⟩ else ⟨#[115, 97, 108, 116]⟩

/-- The text of an act: what, of which word, how many. -/
def actB (k w c : Nat) : ByteArray :=
  if k ≤ 1 then ((⟨#[97, 100, 100, 32]⟩ ++ wordA w) ++ ⟨#[32]⟩) ++ (⟨#[49, 50, 51, 52, 53, 54, 55, 56, 57]⟩ : ByteArray).extract c (c + 1)
  else if k = 2 then ⟨#[114, 101, 109, 111, 118, 101, 32]⟩ ++ wordA w
  else if k = 3 then ⟨#[97, 112, 112, 108, 121, 32]⟩ ++ wordA w
  else if k = 4 then ⟨#[114, 101, 118, 111, 107, 101, 32]⟩ ++ wordA w
  else ⟨#[110, 111, 116, 101, 32]⟩ ++ wordA w

def actC (k w c : Nat) : Cm :=
  if k ≤ 1 then ⟨.closed, wordA w, c + 1⟩
  else if k = 2 then ⟨.listen, wordA w, 0⟩
  else if k = 3 then ⟨.established, wordA w, 0⟩
  else if k = 4 then ⟨.finWait, wordA w, 0⟩
  else ⟨.closeWait, wordA w, 0⟩

theorem act_read {k w c : Nat} (hk : k < 7) (hw : w < 3) (hc : c < 9) : readC (actB k w c) = some (actC k w c) ∧ (actB k w c).size ≤ 100 := by
  have h : ∀ c, c < 9 → ∀ w, w < 3 → readC (actB 0 w c) = some (actC 0 w c) ∧ (actB 0 w c).size ≤ 100 := fun c hc w hw => by
    rcases (show w = 0 ∨ w = 1 ∨ w = 2 by omega) with rfl | rfl | rfl <;> rcases (show c = 0 ∨ c = 1 ∨ c = 2 ∨ c = 3 ∨ c = 4 ∨ c = 5 ∨ c = 6 ∨ c = 7 ∨ c = 8 by omega) with rfl | rfl | rfl | rfl | rfl | rfl | rfl | rfl | rfl <;> exact ⟨by kernel_rfl, by decide +kernel⟩
  have h2 : ∀ w, w < 3 → ∀ k, k < 7 → 2 ≤ k → readC (actB k w 0) = some (actC k w 0) ∧ (actB k w 0).size ≤ 100 := fun w hw k hk h2 => by
    rcases (show w = 0 ∨ w = 1 ∨ w = 2 by omega) with rfl | rfl | rfl <;> rcases (show k = 2 ∨ k = 3 ∨ k = 4 ∨ k = 5 ∨ k = 6 by omega) with rfl | rfl | rfl | rfl | rfl <;> exact ⟨by kernel_rfl, by decide +kernel⟩
  by_cases hl : k ≤ 1
  · have e1 : actB k w c = actB 0 w c := by simp [actB, hl]
    have e2 : actC k w c = actC 0 w c := by simp [actC, hl]
    rw [e1, e2]
    exact h c hc w hw
  · have e1 : actB k w c = actB k w 0 := by simp [actB, hl]
    have e2 : actC k w c = actC k w 0 := by simp [actC, hl]
    rw [e1, e2]
    exact h2 w hw k hk (by omega)

set_option maxRecDepth 100000 in
set_option maxHeartbeats 8000000 in
theorem actTextG (W : World) (at_ what word count : Int) (h1 : -9223372036854775808 ≤ what ∧ what ≤ 9223372036854775807) (h2 : -9223372036854775808 ≤ word ∧ word ≤ 9223372036854775807) (h3 : -9223372036854775808 ≤ count ∧ count ≤ 9223372036854775807) :
    Calls Tryz.prog 24 #[.agg #[.int .i64 at_, .int .i64 what, .int .i64 word, .int .i64 count]] W fun e w' => e = .returned (.string (actB (pickN what 7) (pickN word 3) (pickN count 9))) ∧ Below W.heap.size W w' := by
  have hk : pickN what 7 < 7 := by have : (pickN what 7 : Int) < 7 := pickN_lt (by omega); omega
  have hw : pickN word 3 < 3 := by have : (pickN word 3 : Int) < 3 := pickN_lt (by omega); omega
  have hc : pickN count 9 < 9 := by have : (pickN count 9 : Int) < 9 := pickN_lt (by omega); omega
  have HP : Hid (∀ (c m : Int) (w : World), (-9223372036854775808 ≤ c ∧ c ≤ 9223372036854775807) → (0 < m ∧ m ≤ 100) → Calls Tryz.prog 18 #[.int .i64 c, .int .i64 m] w fun e w' => e = .returned (.int .i64 (pickN c m : Int)) ∧ w' = w) := fun c m w hc hm => pickK c m w hc hm
  generalize pickN = pk at *
  rcases (show pk word 3 = 0 ∨ pk word 3 = 1 ∨ pk word 3 = 2 by omega) with hw0 | hw0 | hw0 <;> rcases (show pk what 7 = 0 ∨ pk what 7 = 1 ∨ pk what 7 = 2 ∨ pk what 7 = 3 ∨ pk what 7 = 4 ∨ pk what 7 = 5 ∨ pk what 7 = 6 by omega) with hk0 | hk0 | hk0 | hk0 | hk0 | hk0 | hk0
  all_goals (
    rw [hw0, hk0]
    go_enter Tryz.func24, Tryz.ntmps24
    go_wp2_with (go_at_call 18; refine (HP.out _ _ _ (by assumption) (by omega)).mono ?_; rintro e w' ⟨rfl, hww⟩; have hw' := hww.symm; clear hww; subst hw')
    go_ret
    exact ⟨rfl, ((Below.refl _ W).alloc (Nat.le_refl _) _).alloc (by simp) _⟩)

end Go.Proofs.YtckmppkdpnhodaaGreatDoor

namespace Go.Proofs.YtckmppkdpnhodaaGreatDoor
set_option linter.unusedVariables false
set_option linter.unusedSimpArgs false
open Go.RowKit Go.Proofs

section
variable {w0 W : World} {n g1 p1 c1 g2 p2 c2 : Nat} {r1 r2 : Nat → Nat} {S S2 : Nat → Sr} {clock k done : Nat}

end

end Go.Proofs.YtckmppkdpnhodaaGreatDoor

namespace Go.Proofs.YtckmppkdpnhodaaGreatDoor
set_option linter.unusedVariables false
set_option linter.unusedSimpArgs false
open Go.RowKit Go.Proofs

/-- An act as it comes in: at which replica, what, of which word, how many. -/
structure Ac where
  at_ : Int
  what : Int
  word : Int
  count : Int

def I64 (z : Int) : Prop := -9223372036854775808 ≤ z ∧ z ≤ 9223372036854775807
def Ac.ok (o : Ac) : Prop := I64 o.at_ ∧ I64 o.what ∧ I64 o.word ∧ I64 o.count

/-- Acts in memory. -/
def ActsAt (w : World) (p : Option Addr) (sc : List Ac) : Prop :=
  ∀ (i : Nat) (o : Ac), sc[i]? = some o → ∃ b off, p = some ⟨b, off, none⟩ ∧ w.cell? ⟨b, off + i * 4, none⟩ = some (.int .i64 o.at_) ∧ w.cell? ⟨b, off + i * 4 + 1, none⟩ = some (.int .i64 o.what) ∧ w.cell? ⟨b, off + i * 4 + 2, none⟩ = some (.int .i64 o.word) ∧ w.cell? ⟨b, off + i * 4 + 3, none⟩ = some (.int .i64 o.count)

theorem ActsAt.below {w w' : World} {p : Option Addr} {sc : List Ac} (h : ActsAt w p sc) (hb : Below w.heap.size w w') : ActsAt w' p sc := fun i o ho => by
  obtain ⟨b, off, hp, c0, c1, c2, c3⟩ := h i o ho
  have hlt : b < w.heap.size := World.block_lt_of_cell? w _ c0
  have key : ∀ (k : Nat) (v : Value), w.cell? ⟨b, k, none⟩ = some v → w'.cell? ⟨b, k, none⟩ = some v := fun k v hv => (World.cell?_of_block (a := ⟨b, k, none⟩) (hb.block b hlt)).trans hv
  exact ⟨b, off, hp, key _ _ c0, key _ _ c1, key _ _ c2, key _ _ c3⟩

section
variable {w0 W : World} {n g1 p1 c1 g2 p2 c2 : Nat} {r1 r2 : Nat → Nat} {clock k done : Nat}

end

end Go.Proofs.YtckmppkdpnhodaaGreatDoor

namespace Go.Proofs.YtckmppkdpnhodaaGreatDoor
set_option linter.unusedVariables false
set_option linter.unusedSimpArgs false
open Go.RowKit Go.Proofs

attribute [local go_sem ↓] Go.wp_at_zero Go.wp_at_succ

end Go.Proofs.YtckmppkdpnhodaaGreatDoor

namespace Go.Proofs.YtckmppkdpnhodaaGreatDoor
set_option linter.unusedVariables false
set_option linter.unusedSimpArgs false
open Go.ChangeShapes Go.WideShapes Go.ChangeAt Go.RowKit Go.Deep

theorem Tryz.cActK : Tryz.prog.cellsOf 50 = 4 := by kernel_rfl
theorem Tryz.cIntK : Tryz.prog.cellsOf 3 = 1 := by kernel_rfl
theorem Tryz.laidOutK : laidOutB Tryz.prog = true := by kernel_rfl
theorem Tryz.actR : Tryz.prog.readableRec 50 = true := by kernel_rfl
theorem Tryz.actS : Tryz.prog.slicesRec 50 = false := by kernel_rfl
theorem Tryz.actI : Tryz.prog.ifacesRec 50 = false := by kernel_rfl
theorem Tryz.actV : Tryz.prog.veiledRec 50 = false := by kernel_rfl
theorem Tryz.actL : 50 < Tryz.prog.types.size := of_decide_eq_true (by kernel_rfl)

section
variable {H : Type} {enc : TypeId × Value → H} {W W' : World} {base : Nat} {sp : Nat → Bool} {hd : Bool}

set_option maxRecDepth 100000 in
theorem ac_of {n : Nat} {cs : List Value} {x : DataW H × List MemPlace} (h : DataW.trod enc Tryz.prog W base sp hd n 50 cs = some x) :
    ∃ o : Ac, cs = [.int .i64 o.at_, .int .i64 o.what, .int .i64 o.word, .int .i64 o.count] ∧ o.ok := by
  obtain ⟨xs, k, -, -, hl, hxl, hf⟩ := DataW.trod_struct Tryz.underlying50 h
  rw [Tryz.cActK] at hl
  match cs, hl with
  | [v0, v1, v2, v3], _ =>
    match xs, hxl with
    | [y0, y1, y2, y3], _ =>
      have g0 : DataW.trod enc Tryz.prog W base sp hd k 3 (([v0, v1, v2, v3].drop 0).take (Tryz.prog.cellsOf 3)) = some y0 := hf 0 _ rfl
      have g1 : DataW.trod enc Tryz.prog W base sp hd k 3 (([v0, v1, v2, v3].drop 1).take (Tryz.prog.cellsOf 3)) = some y1 := hf 1 _ rfl
      have g2 : DataW.trod enc Tryz.prog W base sp hd k 3 (([v0, v1, v2, v3].drop 2).take (Tryz.prog.cellsOf 3)) = some y2 := hf 2 _ rfl
      have g3 : DataW.trod enc Tryz.prog W base sp hd k 3 (([v0, v1, v2, v3].drop 3).take (Tryz.prog.cellsOf 3)) = some y3 := hf 3 _ rfl
      rw [Tryz.cIntK] at g0 g1 g2 g3
      obtain ⟨z0, e0, -, w0⟩ := DataW.trod_int Tryz.underlying3 g0
      obtain ⟨z1, e1, -, w1⟩ := DataW.trod_int Tryz.underlying3 g1
      obtain ⟨z2, e2, -, w2⟩ := DataW.trod_int Tryz.underlying3 g2
      obtain ⟨z3, e3, -, w3⟩ := DataW.trod_int Tryz.underlying3 g3
      simp at e0 e1 e2 e3
      subst e0 e1 e2 e3
      exact ⟨⟨z0, z1, z2, z3⟩, rfl, i64K w0, i64K w1, i64K w2, i64K w3⟩

/-- The script that came in. -/
theorem acts_of {n : Nat} {cs : List Value} {x : DataW H × List MemPlace} (h : DataW.trod enc Tryz.prog W base (fun _ => true) hd n 48 cs = some x) :
    ∃ (p : Option Addr) (cap : Nat) (sc : List Ac), cs = [.slice p sc.length cap] ∧ ActsAt W p sc ∧ (∀ o ∈ sc, o.ok) ∧ sc.length ≤ maxLen := by
  rcases open_slice Tryz.underlying48 h with ⟨rfl, rfl⟩ | ⟨a, len, cap, m, n, D, Pl, rfl, h0, hl, hm, hmm, rfl, hi⟩
  · exact ⟨none, 0, [], rfl, fun i o ho => by simp at ho, fun o ho => by simp at ho, Nat.zero_le _⟩
  · simp only [if_true] at hmm
    subst hmm
    rw [Tryz.cActK] at hi
    have each : ∀ i, i < m → ∃ o : Ac, W.cells? base (a.add (i * 4)) 4 = some [.int .i64 o.at_, .int .i64 o.what, .int .i64 o.word, .int .i64 o.count] ∧ o.ok := fun i him => by
      obtain ⟨cs', h1, h2⟩ := hi i him
      obtain ⟨o, rfl, h3⟩ := ac_of h2
      exact ⟨o, h1, h3⟩
    obtain ⟨f, hf⟩ := Classical.skolem.1 (fun i => (show ∃ o : Ac, i < m → _ from if him : i < m then (each i him).elim fun o ho => ⟨o, fun _ => ho⟩ else ⟨⟨0, 0, 0, 0⟩, fun h => absurd h him⟩))
    refine ⟨some a, m, (List.range len).map f, by simp, fun i o ho => ?_, fun o ho => ?_, by simp only [List.length_map, List.length_range]; omega⟩
    · have hil : i < len := by
        have := (List.getElem?_eq_some_iff.1 ho).1
        simpa using this
      have hio : o = f i := by
        rw [List.getElem?_map, List.getElem?_range hil] at ho
        simpa using ho.symm
      subst hio
      obtain ⟨-, -, hc⟩ := World.cells?_some (hf i (by omega)).1
      have hsp : a.spot = none := by
        have := World.cell?_spot ((World.cells?_some (hf 0 (by omega)).1).2.2 0 (by omega))
        simpa [Addr.add] using this
      obtain ⟨b, off, spot⟩ := a
      simp only at hsp
      subst hsp
      have e : ∀ j, j < 4 → W.cell? ⟨b, off + i * 4 + j, none⟩ = [Value.int .i64 (f i).at_, .int .i64 (f i).what, .int .i64 (f i).word, .int .i64 (f i).count][j]? := fun j hj => by
        have := hc j hj
        rw [add_add] at this
        rw [← this]
        unfold Addr.add
        split
        · rename_i h0
          have : i * 4 + j = 0 := h0
          simp [Nat.add_assoc, this]
        · simp [Nat.add_assoc]
      exact ⟨b, off, rfl, e 0 (by omega), e 1 (by omega), e 2 (by omega), e 3 (by omega)⟩
    · obtain ⟨i, hi', rfl⟩ := List.mem_map.1 ho
      exact (hf i (by have := List.mem_range.1 hi'; omega)).2

theorem acts_again {n : Nat} {cs : List Value} {x : DataW H × List MemPlace} (hb : Below W.heap.size W W') (h : DataW.trod enc Tryz.prog W 0 (fun _ => true) true n 48 cs = some x) (hp : ∀ q ∈ x.2, q.block < W.heap.size) :
    ∃ m, DataW.trod enc Tryz.prog W' 0 (fun b => decide (b < W.heap.size)) true m 48 cs = some x :=
  slice_again Tryz.underlying48 hb (by rw [Tryz.cActK]; omega) (fun n _ _ h hq => ⟨n, trod_any Tryz.laidOutK Tryz.actR Tryz.actL Tryz.actS Tryz.actI h (fun p hp => same_below hb (hq p hp)) Tryz.actV⟩) h hp

end

end Go.Proofs.YtckmppkdpnhodaaGreatDoor
