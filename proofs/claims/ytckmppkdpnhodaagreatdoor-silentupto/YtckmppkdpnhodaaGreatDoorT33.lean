/-
  Groups: replicas side by side, begun. cartelkeep.begun. (*group).come. Frames on their way, in memory. (*group).frames. Rounds of a group, purely: in what order the letters come. (*group).rounds. (*group).alike. Notes, purely: the carts. A group as the statements hold it: what each call does. Notes. What the rows' list gives, for replicas that hear of each other; Notes: its card. All that was done in a network; where all know all, each log holds just that. Wins, purely: the carts. Wins: what each of its calls does. Wins. Wins: its card. Two groups at once.
-/
import Derived.Test.YtckmppkdpnhodaaGreatDoorT32
import Derived.Test.YtckmppkdpnhodaaGreatDoorT02
import Derived.BigQuiet
import Derived.Test.YtckmppkdpnhodaaGreatDoorT01
import Derived.Test.YtckmppkdpnhodaaGreatDoorCards
import Derived.Test.YtckmppkdpnhodaaGreatDoorTie
import Derived.ProofKit
import Derived.Deep.DeepHandedRow
namespace Go.Proofs.YtckmppkdpnhodaaGreatDoor
set_option linter.unusedVariables false
set_option linter.unusedSimpArgs false
open Go.RowKit Go.Proofs

/-- A group: its replicas, the block that names them. -/
structure Grp (w0 : World) (n LB NB : Nat) (S : Nat → Sr) (d : Side) (gb pb pc : Nat) (W : World) : Prop where
  net : NetS w0 n LB NB S d W
  grp : W.heap[gb]? = some (.cells #[.slice (some ⟨pb, 0, none⟩) n pc] 41 (0, 0))
  ptr : ∀ i, i < n → W.cell? ⟨pb, i, none⟩ = some (.pointer (some ⟨d.rb i, 0, none⟩))
  gfar : w0.heap.size ≤ gb ∧ d.far n gb
  pfar : w0.heap.size ≤ pb ∧ d.far n pb
  pblk : ∃ C, W.heap[pb]? = some (.cells C 38 (0, 0))

section
variable {w0 W W' : World} {n LB LB' NB : Nat} {S S' : Nat → Sr} {d d' : Side} {gb pb pc : Nat}

theorem Grp.glt (h : Grp w0 n LB NB S d gb pb pc W) : gb < W.heap.size := (Array.getElem?_eq_some_iff.1 h.grp).1
theorem Grp.plt (h : Grp w0 n LB NB S d gb pb pc W) : pb < W.heap.size := World.block_lt_of_cell? W _ (h.ptr 0 (by have := h.net.fit.n5; omega))

theorem Grp.step (h : Grp w0 n LB NB S d gb pb pc W) (hn : NetS w0 n LB' NB S' d' W') (st : StepM n W d W' d') : Grp w0 n LB' NB S' d' gb pb pc W' :=
  ⟨hn, (st.block gb h.glt h.gfar.2).trans h.grp, fun i hi => by rw [st.rb]; exact (World.cell?_of_block (a := ⟨pb, i, none⟩) (st.block pb h.plt h.pfar.2)).trans (h.ptr i hi), ⟨h.gfar.1, st.far gb h.glt h.gfar.2⟩, ⟨h.pfar.1, st.far pb h.plt h.pfar.2⟩, by obtain ⟨C, hC⟩ := h.pblk; exact ⟨C, (st.block pb h.plt h.pfar.2).trans hC⟩⟩

theorem Grp.below (h : Grp w0 n LB NB S d gb pb pc W) (hb : Below W.heap.size W W') : Grp w0 n LB NB S d gb pb pc W' := h.step (h.net.below hb) (StepM.below hb d)

theorem Grp.c0 (h : Grp w0 n LB NB S d gb pb pc W) : W.cell? ⟨gb, 0, none⟩ = some (.slice (some ⟨pb, 0, none⟩) n pc) := by rw [cell_of_heap h.grp]; rfl

end

set_option maxRecDepth 100000 in
set_option maxHeartbeats 1000000 in
theorem newR (n : Nat) (hn : 2 ≤ n ∧ n ≤ 5) (i : Nat) (hi : i < n) (W : World) : Calls Tryz.prog 31 #[.int .i64 (i : Int), .int .i64 (n : Int)] W fun e w' => e = .returned (.tuple #[.pointer (some ⟨W.heap.size, 0, none⟩), .int .i64 0]) ∧ w'.heap.size = W.heap.size + 1 ∧ Below W.heap.size W w' ∧ RepQ w' W.heap.size n i 0 [] 0 [] (fun _ => false) (.slice none 0 0) (.slice none 0 0) := by
  have hn5 := hn.2
  have hn2 := hn.1
  go_enter Tryz.func31, Tryz.ntmps31
  go_wp2
  go_ret2
  refine ⟨rfl, by simp, (Below.refl _ W).alloc (Nat.le_refl _) _, ?_, World.ownsRow_nil .., by simp [Value.ownBlock], World.ownsRow_nil .., by simp [Value.ownBlock], fun b hb => by simp [Value.ownBlock] at hb, fun c _ hc => by simp at hc⟩
  rw [heap_alloc_new]
  simp [repG, reachOf, cntL]

/-- While replicas are being made. -/
structure BegI (w : World) (n gb : Nat) (rbs : List Nat) (lv : Value) (W : World) : Prop where
  grp : W.heap[gb]? = some (.cells #[lv] 41 (0, 0))
  row : W.ownsRow (gb + 1) 38 1 lv rbs.length (rbs.map fun r => .pointer (some ⟨r, 0, none⟩))
  rep : ∀ (i : Nat) (r : Nat), rbs[i]? = some r → RepQ W r n i 0 [] 0 [] (fun _ => false) (.slice none 0 0) (.slice none 0 0)
  gt : ∀ r ∈ rbs, gb < r ∧ lv.ownBlock ≠ some r
  dist : rbs.Pairwise fun a b => a ≠ b
  bel : Below gb w W

theorem BegI.step {w : World} {n gb : Nat} {rbs : List Nat} {lv : Value} {W w2 w5 : World} (h : BegI w n gb rbs lv W) (hgb : w.heap.size = gb) (hb : Below W.heap.size W w2) (hs : w2.heap.size = W.heap.size + 1) (hr : RepQ w2 W.heap.size n rbs.length 0 [] 0 [] (fun _ => false) (.slice none 0 0) (.slice none 0 0)) {o : Obj} {g cap : Nat}
    (ho : w5.ownsRow (gb + 1) 38 1 (.slice (some ⟨g, 0, none⟩) (rbs.length + 1) cap) (rbs.length + 1) ((rbs.map fun r => .pointer (some ⟨r, 0, none⟩)) ++ [.pointer (some ⟨W.heap.size, 0, none⟩)])) (hg : (w2.alloc o).grownBy w5 lv.ownBlock) (hat : lv.ownBlock = some g ∨ g = w2.heap.size + 1) :
    BegI w n gb (rbs ++ [W.heap.size]) (.slice (some ⟨g, 0, none⟩) (rbs.length + 1) cap) (w5.setCell ⟨gb, 0, none⟩ (.slice (some ⟨g, 0, none⟩) (rbs.length + 1) cap)) := by
  have hgl := (Array.getElem?_eq_some_iff.1 h.grp).1
  have hlv : ∀ b, lv.ownBlock = some b → gb < b ∧ b < W.heap.size := fun b hb => ⟨own_ge h.row hb, (h.row.lt b hb).2⟩
  have u5 : Upd [lv.ownBlock] w2 w5 := ((Upd.refl _ w2).alloc o).grown hg fun b hb => .inl (by simp [hb])
  have ne : ∀ b, lv.ownBlock ≠ some b → some b ∉ [lv.ownBlock] := fun b hne hm => hne (List.mem_singleton.1 hm).symm
  have hg5 : w5.heap[gb]? = some (.cells #[lv] 41 (0, 0)) := (u5.block gb (by omega) (ne gb fun e => by have := (hlv gb e).1; omega)).trans ((hb.block gb hgl).trans h.grp)
  have hgg : gb < g := own_ge ho (b := g) rfl
  have us : Upd [some gb] w5 (w5.setCell ⟨gb, 0, none⟩ (.slice (some ⟨g, 0, none⟩) (rbs.length + 1) cap)) := (Upd.refl _ w5).setCell (.inl (by simp)) _
  have nn : ∀ {b : Nat}, (Value.slice none 0 0).ownBlock = some b → ∀ X : List (Option Nat), some b ∉ X := fun hb => by simp [Value.ownBlock] at hb
  have keep : ∀ {r i : Nat}, RepQ w2 r n i 0 [] 0 [] (fun _ => false) (.slice none 0 0) (.slice none 0 0) → lv.ownBlock ≠ some r → gb < r → RepQ (w5.setCell ⟨gb, 0, none⟩ (.slice (some ⟨g, 0, none⟩) (rbs.length + 1) cap)) r n i 0 [] 0 [] (fun _ => false) (.slice none 0 0) (.slice none 0 0) := fun hq h1 h2 =>
    (hq.keep u5 (ne _ h1) (fun _ hb => nn hb _) fun _ hb => nn hb _).keep us (by simp; omega) (fun _ hb => nn hb _) fun _ hb => nn hb _
  refine ⟨by rw [heap_setCell_same hg5]; rfl, ?_, fun i r hir => ?_, fun r hr' => ?_, ?_, ?_⟩
  · rw [List.length_append, List.map_append]
    exact owns_setCell_other ho (fun b hb => by cases hb; show g ≠ gb; omega) _
  · by_cases hi : i < rbs.length
    · rw [List.getElem?_append_left hi] at hir
      have hm := List.mem_of_getElem? hir
      exact keep ((h.rep i r hir).below hb) (h.gt r hm).2 (h.gt r hm).1
    · have hi2 : i = rbs.length := by
        have := (List.getElem?_eq_some_iff.1 hir).1
        simp at this; omega
      subst hi2
      simp at hir
      subst hir
      exact keep hr (fun e => by have := (hlv _ e).2; omega) (by omega)
  · rcases List.mem_append.1 hr' with hr' | hr'
    · refine ⟨(h.gt r hr').1, fun e => ?_⟩
      have e' : g = r := by cases e; rfl
      subst e'
      rcases hat with e2 | e2
      · exact (h.gt g hr').2 e2
      · obtain ⟨i, hi, rfl⟩ := List.mem_iff_getElem.1 hr'
        have := (h.rep i _ (List.getElem?_eq_getElem hi)).lt
        omega
    · simp at hr'
      subst hr'
      refine ⟨by omega, fun e => ?_⟩
      have e' : g = W.heap.size := by cases e; rfl
      rcases hat with e2 | e2
      · have := (hlv g e2).2; omega
      · omega
  · rw [List.pairwise_append]
    refine ⟨h.dist, List.pairwise_singleton _ _, fun a ha b hb e => ?_⟩
    simp at hb
    subst hb
    subst e
    obtain ⟨i, hi, he⟩ := List.mem_iff_getElem.1 ha
    have := (h.rep i _ (by rw [List.getElem?_eq_getElem hi, he])).lt
    omega
  · have hs0 := h.bel.size
    refine ⟨u5.os.trans (hb.os.trans h.bel.os), u5.tape.trans (hb.tape.trans h.bel.tape), u5.output.trans (hb.output.trans h.bel.output), ?_, fun b hbl => ?_⟩
    · rw [size_setCell]; have := u5.size; omega
    · rw [Below.heap_setCell _ _ _ _ (by show b ≠ gb; omega), u5.block b (by omega) (ne b fun e => by have := (hlv b e).1; omega), hb.block b (by omega)]
      exact h.bel.block b hbl

/-- All are made. -/
theorem BegI.grp' {w0 w : World} {n gb : Nat} (hn : 2 ≤ n ∧ n ≤ 5) {rbs : List Nat} {lv : Value} {W : World} (h : BegI w n gb rbs lv W) (hl : rbs.length = n) (hgb : w.heap.size = gb) (hw : w0.heap.size ≤ w.heap.size) (ho : ∀ b, b < w0.heap.size → w.heap[b]? = w0.heap[b]?) {LB NB : Nat} (hLB : LB ≤ 4294900000) (hNB : NB ≤ 1000000000000000) :
    ∃ d pb pc, Grp w0 n LB NB (fun _ => Sr.empty) d gb pb pc W := by
  obtain ⟨pb, pc, hlv, hge, hplt⟩ := h.row.form (by omega)
  have hrb : ∀ i, i < n → rbs[i]? = some (rbs.getD i 0) := fun i hi => by rw [List.getD_eq_getElem?_getD, List.getElem?_eq_getElem (by omega)]; rfl
  have hfoot : ∀ i b, (⟨fun i => rbs.getD i 0, fun _ => .slice none 0 0, fun _ => .slice none 0 0, fun _ => []⟩ : Side).foot i b ↔ b = rbs.getD i 0 := fun i b => by simp [Side.foot, Value.ownBlock]
  have hgt : ∀ i, i < n → gb < rbs.getD i 0 ∧ lv.ownBlock ≠ some (rbs.getD i 0) := fun i hi => h.gt _ (List.mem_of_getElem? (hrb i hi))
  refine ⟨⟨fun i => rbs.getD i 0, fun _ => .slice none 0 0, fun _ => .slice none 0 0, fun _ => []⟩, pb, pc, ⟨⟨fun i hi => h.rep i _ (hrb i hi), fun _ _ => List.Perm.refl _, fun i j hi hj hij b h1 h2 => ?_⟩, NetOk.empty n, ⟨hn, ?_, hLB, fun _ _ => Nat.zero_le _, hNB, fun _ _ x hx => by simp [Sr.empty] at hx⟩, ?_, fun b hb => ⟨?_, fun j hj hf => ?_⟩⟩, ?_, fun i hi => ?_, ⟨by omega, fun j hj hf => ?_⟩, ⟨by omega, fun j hj hf => ?_⟩, ?_⟩
  · rw [hfoot] at h1 h2
    have h1' := hrb i hi
    have h2' := hrb j hj
    rw [← h1] at h1'
    rw [← h2] at h2'
    obtain ⟨hi', e1⟩ := List.getElem?_eq_some_iff.1 h1'
    obtain ⟨hj', e2⟩ := List.getElem?_eq_some_iff.1 h2'
    rcases Nat.lt_or_gt_of_ne hij with hlt | hlt
    · exact List.pairwise_iff_getElem.1 h.dist i j hi' hj' hlt (e1.trans e2.symm)
    · exact List.pairwise_iff_getElem.1 h.dist j i hj' hi' hlt (e2.trans e1.symm)
  · have : ∀ m, totalS m (fun _ => Sr.empty) = 0 := fun m => by
      unfold totalS
      induction m with
      | zero => rfl
      | succ m ih => rw [sumTo_succ, ih]; rfl
    rw [this]; omega
  · have := h.bel.size; omega
  · exact (h.bel.block b (by omega)).trans (ho b hb)
  · rw [hfoot] at hf; have := (hgt j hj).1; omega
  · rw [h.grp, hlv, hl]
  · have := h.row.cells (g := pb) (by rw [hlv]; rfl) i (.pointer (some ⟨rbs.getD i 0, 0, none⟩)) (by rw [List.getElem?_map, hrb i hi]; rfl)
    rwa [Addr.add_mid, Nat.zero_add] at this
  · rw [hfoot] at hf; have := (hgt j hj).1; omega
  · rw [hfoot] at hf
    exact (hgt j hj).2 (by rw [hlv, hf]; rfl)
  · rcases h.row.2 with ⟨h1, -⟩ | ⟨g', c', cur, h1, -, hg, -⟩
    · rw [h1] at hlv; simp at hlv
    · rw [h1] at hlv
      have e : g' = pb := by simp at hlv; exact hlv.1
      rw [e] at hg
      exact ⟨cur, hg⟩

end Go.Proofs.YtckmppkdpnhodaaGreatDoor

namespace Go.Proofs.YtckmppkdpnhodaaGreatDoor
set_option linter.unusedVariables false
set_option linter.unusedSimpArgs false
open Go.RowKit Go.Proofs

attribute [local go_sem ↓] Go.wp_at_zero Go.wp_at_succ

set_option maxRecDepth 100000 in
set_option maxHeartbeats 4000000 in
theorem begunG (n : Nat) (hn : 2 ≤ n ∧ n ≤ 5) (w : World) : Calls Tryz.prog 19 #[.int .i64 (n : Int)] w fun e w' => ∃ rbs lv, e = .returned (.pointer (some ⟨w.heap.size, 0, none⟩)) ∧ rbs.length = n ∧ BegI w n w.heap.size rbs lv w' := by
  obtain ⟨iP, hi0, hi1, hi2, hi3⟩ := info_parts Tryz.info_rep
  have HN : Hid (2 ≤ n ∧ n ≤ 5) := hn
  have hn5 := hn.2
  clear hn
  go_enter Tryz.func19, Tryz.ntmps19
  go_wp2
  have HST : Hid (BegI w n w.heap.size [] (.slice none 0 0) (w.alloc (.cells #[.slice none 0 0] 41))) := ⟨heap_alloc_new w _, World.ownsRow_nil .., by simp, by simp, List.Pairwise.nil, (Below.refl _ w).alloc (Nat.le_refl _) _⟩
  generalize hgb : w.heap.size = gb at *
  go_loopw [4] (fun v wr => ∃ (rbs : List Nat) (lv : Value), rbs.length ≤ n ∧ v = .int .i64 (rbs.length : Int) ∧ Hid (BegI w n gb rbs lv wr)) (fun v _ => n - (intOf v).toNat)
  case atStart => exact ⟨[], _, by simp, rfl, HST⟩
  case round =>
    obtain ⟨rbs, lv, hl, rfl, HI⟩ := hrel
    by_cases hlt : rbs.length < n
    · have HNW : Hid (Calls Tryz.prog 31 #[.int .i64 (rbs.length : Int), .int .i64 (n : Int)] wr fun e w' => e = .returned (.tuple #[.pointer (some ⟨wr.heap.size, 0, none⟩), .int .i64 0]) ∧ w'.cell? ⟨gb, 0, none⟩ = some lv ∧ w'.frozen? ⟨gb, 0, none⟩ = false ∧ Hid (w'.heap.size = wr.heap.size + 1 ∧ Below wr.heap.size wr w' ∧ RepQ w' wr.heap.size n rbs.length 0 [] 0 [] (fun _ => false) (.slice none 0 0) (.slice none 0 0))) := by
        refine (newR n HN.out rbs.length hlt wr).mono ?_
        rintro e w' ⟨h1, h2, h3, h4⟩
        have hg := (h3.block gb (Array.getElem?_eq_some_iff.1 HI.out.grp).1).trans HI.out.grp
        exact ⟨h1, by rw [cell_of_heap hg]; rfl, frozen_of_heap hg 0, h2, h3, h4⟩
      obtain ⟨pl, cl, hlv⟩ := own_form HI.out.row
      subst hlv
      have hgl : gb < wr.heap.size := (Array.getElem?_eq_some_iff.1 HI.out.grp).1
      have hlb : ∀ b, (Value.slice pl rbs.length cl).ownBlock = some b → gb < b := fun b hb => own_ge HI.out.row hb
      generalize hL : rbs.length = L at *
      go_wp2_with (first
        | (go_at_call 31; refine HNW.out.mono ?_; rintro e w2 ⟨rfl, c2, f2, H2⟩; have hs2 : wr.heap.size < w2.heap.size := (by have := H2.out.1; omega); have HR2 : Hid (∀ o, (w2.alloc o).ownsRow (gb + 1) 38 1 (.slice pl L cl) L (rbs.map fun r => .pointer (some ⟨r, 0, none⟩))) := fun o => (Upd.alloc (Upd.refl [] w2) o).owns ((Upd.of_below (S := []) H2.out.2.1).owns (by have := HI.out.row; rwa [hL] at this) (by simp)) (by simp); have n2 := World.new_ne w2 _ c2)
        | (at_builtin; refine wpList_append_lies _ rfl _ _ 39 rfl (gb + 1) 38 iP (.pointer none) 1 8 Tryz.underlying39 hi0 hi1 hi2 hi3 rfl (by decide) (.slice pl L cl) L (rbs.map fun r => .pointer (some ⟨r, 0, none⟩)) (by rfl) (HR2.out _) ⟨w2.heap.size, 0, none⟩ 1 1 [.pointer (some ⟨wr.heap.size, 0, none⟩)] (by rfl) (by rfl) (World.news_of_block (heap_alloc_new _ _)) (by simp [Value.oneCell']) (by omega) (by unfold maxLen; omega) (by omega) (by simp; omega) (w2.heap.size + 1) (by simp) ?_; intro g5 cap5 w5 ho5 hg5 hat5 hgl5; have s5 : w5.cell? ⟨gb, 0, none⟩ = some (.slice pl L cl) := (hg5.cell_far ⟨gb, 0, none⟩ (by first | (simp; done) | (simp; omega)) (fun e => by have := hlb gb e.symm; omega)).trans ((World.cell?_of_block (a := ⟨gb, 0, none⟩) (Below.heap_alloc w2 _ gb (by omega))).trans c2); have sf : w5.frozen? ⟨gb, 0, none⟩ = false := (hg5.frozen_far ⟨gb, 0, none⟩ (by first | (simp; done) | (simp; omega)) (fun e => by have := hlb gb e.symm; omega)).trans ((World.frozen?_of_block (a := ⟨gb, 0, none⟩) (Below.heap_alloc w2 _ gb (by omega))).trans f2)))
      go_roundw
      case rel =>
        have hI := HI.out
        subst hL
        have R := hI.step hgb H2.out.2.1 H2.out.1 H2.out.2.2 ho5 hg5 hat5
        exact ⟨rbs ++ [wr.heap.size], _, by rw [List.length_append]; simp; omega, by rw [List.length_append]; simp, R⟩
      case measure => simp [intOf]; omega
    · have hn : rbs.length = n := by omega
      go_wp2
      go_ret
      exact ⟨rbs, lv, by rw [hgb]; rfl, hn, by rw [hgb]; exact HI.out⟩

end Go.Proofs.YtckmppkdpnhodaaGreatDoor

namespace Go.Proofs.YtckmppkdpnhodaaGreatDoor
set_option linter.unusedVariables false
set_option linter.unusedSimpArgs false
open Go.RowKit Go.Proofs

theorem bytes_below {w w' : World} {z off c : Nat} {f : List UInt8} (h : BytesAt w (.slice (some ⟨z, off, none⟩) f.length c) f) (hb : Below w.heap.size w w') : BytesAt w' (.slice (some ⟨z, off, none⟩) f.length c) f := by
  obtain ⟨p', c', h1, h2⟩ := h
  exact ⟨p', c', h1, fun i x hx => by obtain ⟨b', o', h3, h4⟩ := h2 i x hx; exact ⟨b', o', h3, cell_below hb h4⟩⟩

end Go.Proofs.YtckmppkdpnhodaaGreatDoor

namespace Go.Proofs.YtckmppkdpnhodaaGreatDoor
set_option linter.unusedVariables false
set_option linter.unusedSimpArgs false
open Go.RowKit Go.Proofs

end Go.Proofs.YtckmppkdpnhodaaGreatDoor

namespace Go.Proofs.YtckmppkdpnhodaaGreatDoor
set_option linter.unusedVariables false
set_option linter.unusedSimpArgs false
open Go.RowKit Go.Proofs

attribute [local go_sem ↓] Go.wp_at_zero Go.wp_at_succ

theorem outCells_get (os : List (Nat × Value × List UInt8)) {k : Nat} (hk : k < os.length) : (outCells os)[k * 2]? = some (.int .i64 ((os[k].1 : Nat) : Int)) ∧ (outCells os)[k * 2 + 1]? = some os[k].2.1 := by
  have h := flat_at (fun o : Nat × Value × List UInt8 => [Value.int .i64 ((o.1 : Nat) : Int), o.2.1]) 2 (fun _ => rfl) os k
  exact ⟨by have := h 0 hk (by omega); simpa [outCells] using this, by have := h 1 hk (by omega); simpa [outCells] using this⟩

end Go.Proofs.YtckmppkdpnhodaaGreatDoor

namespace Go.Proofs.YtckmppkdpnhodaaGreatDoor
set_option linter.unusedVariables false
set_option linter.unusedSimpArgs false
open Go.RowKit Go.Proofs

end Go.Proofs.YtckmppkdpnhodaaGreatDoor

namespace Go.Proofs.YtckmppkdpnhodaaGreatDoor
set_option linter.unusedVariables false
set_option linter.unusedSimpArgs false
open Go.RowKit Go.Proofs

attribute [local go_sem ↓] Go.wp_at_zero Go.wp_at_succ

end Go.Proofs.YtckmppkdpnhodaaGreatDoor

namespace Go.Proofs.YtckmppkdpnhodaaGreatDoor
set_option linter.unusedVariables false
set_option linter.unusedSimpArgs false
open Go.RowKit Go.Proofs

attribute [local go_sem ↓] Go.wp_at_zero Go.wp_at_succ

theorem textIs_unique {C : CartS} {s t : ByteArray} (hs : TextIs C s) (ht : TextIs C t) : s = t := by
  obtain ⟨a1, a2, a3, ⟨p1, q1⟩, ⟨p2, q2⟩, ⟨p3, q3⟩, e⟩ := hs
  obtain ⟨b1, b2, b3, ⟨r1, s1⟩, ⟨r2, s2⟩, ⟨r3, s3⟩, f⟩ := ht
  have e1 := sorted_unique a1 b1 p1 r1 fun x => (q1 x).trans (s1 x).symm
  have e2 := sorted_unique a2 b2 p2 r2 fun x => (q2 x).trans (s2 x).symm
  have e3 := sorted_unique a3 b3 p3 r3 fun x => (q3 x).trans (s3 x).symm
  subst e1 e2 e3
  exact bytes_ext (e.trans f.symm)

end Go.Proofs.YtckmppkdpnhodaaGreatDoor

namespace Go.Proofs.YtckmppkdpnhodaaGreatDoor
set_option linter.unusedVariables false
set_option linter.unusedSimpArgs false
open Go.RowKit Go.Proofs

end Go.Proofs.YtckmppkdpnhodaaGreatDoor

namespace Go.Proofs.YtckmppkdpnhodaaGreatDoor
set_option linter.unusedVariables false
set_option linter.unusedSimpArgs false
open Go.RowKit Go.Proofs

/-- A group whose replicas lie where rbs tells; what was there ahead of it stands. -/
def GrpR (w0 : World) (n LB NB gb pb pc : Nat) (rbs : Nat → Nat) (S : Nat → Sr) (W : World) : Prop :=
  ∃ d : Side, (∀ i, d.rb i = rbs i) ∧ Grp w0 n LB NB S d gb pb pc W ∧ W.os = w0.os ∧ W.tape = w0.tape ∧ W.output = w0.output

section
variable {w0 W W' : World} {n LB NB gb pb pc : Nat} {rbs : Nat → Nat} {S : Nat → Sr}

theorem GrpR.of {d : Side} {LB' : Nat} {S' : Nat → Sr} (h : GrpR w0 n LB NB gb pb pc rbs S W) (hd : ∃ d0, (∀ i, d0.rb i = rbs i) ∧ Grp w0 n LB' NB S' d gb pb pc W' ∧ StepM n W d0 W' d) : GrpR w0 n LB' NB gb pb pc rbs S' W' := by
  obtain ⟨-, -, -, h1, h2, h3⟩ := h
  obtain ⟨d0, hr, hg, hst⟩ := hd
  exact ⟨d, fun i => (hst.rb i).trans (hr i), hg, hst.os.trans h1, hst.tape.trans h2, hst.output.trans h3⟩

theorem GrpR.below (h : GrpR w0 n LB NB gb pb pc rbs S W) (hb : Below W.heap.size W W') : GrpR w0 n LB NB gb pb pc rbs S W' := by
  obtain ⟨d, hr, hg, h1, h2, h3⟩ := h
  exact ⟨d, hr, hg.below hb, hb.os.trans h1, hb.tape.trans h2, hb.output.trans h3⟩

theorem GrpR.c0 (h : GrpR w0 n LB NB gb pb pc rbs S W) : W.cell? ⟨gb, 0, none⟩ = some (.slice (some ⟨pb, 0, none⟩) n pc) := by
  obtain ⟨d, -, hg, -⟩ := h
  exact hg.c0

theorem GrpR.ptr (h : GrpR w0 n LB NB gb pb pc rbs S W) {i : Nat} (hi : i < n) : W.cell? ⟨pb, i, none⟩ = some (.pointer (some ⟨rbs i, 0, none⟩)) := by
  obtain ⟨d, hr, hg, -⟩ := h
  rw [← hr i]
  exact hg.ptr i hi

theorem GrpR.n5 (h : GrpR w0 n LB NB gb pb pc rbs S W) : 2 ≤ n ∧ n ≤ 5 := by
  obtain ⟨d, -, hg, -⟩ := h
  exact hg.net.fit.n5

/-- The old memory stands. -/
theorem GrpR.old (h : GrpR w0 n LB NB gb pb pc rbs S W) : Below w0.heap.size w0 W := by
  obtain ⟨d, -, hg, h1, h2, h3⟩ := h
  exact ⟨h1, h2, h3, hg.net.size, fun b hb => (hg.net.old b hb).1⟩

/-- A command that is done. -/
theorem GrpR.do (h : GrpR w0 n LB NB gb pb pc rbs S W) (hg : Glob w0) {i : Nat} (hi : i < n) (hLB : totalS n S < LB) (s : ByteArray) (hs : s.size ≤ maxLen) {c : Cm} (hr : readC s = some c) (hgo : goesB (cartG (S i).log (S i).log) c = true) (ho : openI (S i).its < 8) :
    Calls Tryz.prog 20 #[.pointer (some ⟨rbs i, 0, none⟩), .string s] W fun e w' => e = .returned (.int .i64 0) ∧ ∃ x, x.c = c ∧ x.org = i ∧ x.seq = cntL (S i).log i + 1 ∧ x.ah = reachOf (S i).log ∧ GrpR w0 n LB NB gb pb pc rbs (updS S i (doS n i (S i) x)) w' := by
  obtain ⟨d, hrb, hgr, -⟩ := id h
  rw [← hrb i]
  refine (doN hgr.net hg hi hLB s hs).mono ?_
  rintro e w' (⟨q, -⟩ | ⟨c', q, q2, -⟩ | ⟨c', -, -, q, -⟩ | ⟨x, q1, -, -, q2, q3, q4, q5, d', q6, q7⟩)
  · rw [hr] at q; simp at q
  · rw [hr] at q
    obtain rfl := Option.some.inj q
    rw [hgo] at q2; simp at q2
  · omega
  · rw [hr] at q1
    exact ⟨q5, x, (Option.some.inj q1).symm, q2, q3, q4, h.of ⟨d, hrb, hgr.step q6 q7, q7⟩⟩

end

theorem begunR (n : Nat) (hn : 2 ≤ n ∧ n ≤ 5) (w : World) {LB NB : Nat} (hLB : LB ≤ 4294900000) (hNB : NB ≤ 1000000000000000) : Calls Tryz.prog 19 #[.int .i64 (n : Int)] w fun e w' => ∃ gb pb pc rbs, e = .returned (.pointer (some ⟨gb, 0, none⟩)) ∧ GrpR w n LB NB gb pb pc rbs (fun _ => Sr.empty) w' := by
  refine (begunG n hn w).mono ?_
  rintro e w' ⟨rbs, lv, he, hl, hB⟩
  obtain ⟨d, pb, pc, hg⟩ := hB.grp' (w0 := w) hn hl rfl (Nat.le_refl _) (fun _ _ => rfl) hLB hNB
  exact ⟨_, pb, pc, d.rb, he, d, fun _ => rfl, hg, hB.bel.os, hB.bel.tape, hB.bel.output⟩

set_option maxHeartbeats 400000 in
theorem pickK (c n : Int) (w : World) (hc : -9223372036854775808 ≤ c ∧ c ≤ 9223372036854775807) (hn : 0 < n ∧ n ≤ 100) :
    Calls Tryz.prog 18 #[.int .i64 c, .int .i64 n] w fun e w' => e = .returned (.int .i64 (pickN c n : Int)) ∧ w' = w := by
  obtain ⟨hc1, hc2⟩ := hc
  obtain ⟨hn1, hn2⟩ := hn
  have HP : Hid ((pickN c n : Int) = (if c < 0 then -(c + 1) else c) % n) := pickN_int hn1
  by_cases h : c < 0
  · have hp : 0 ≤ -(c + 1) := by omega
    go_enter Tryz.func18, Tryz.ntmps18
    go_wp2
    go_ret
    refine ⟨ret_int ?_, rfl⟩
    rw [HP.out, if_pos h, ← Int.neg_tmod, Int.tmod_eq_emod_of_nonneg hp]
  · go_enter Tryz.func18, Tryz.ntmps18
    go_wp2
    go_ret
    exact ⟨ret_int (by rw [HP.out, if_neg (by omega)]), rfl⟩

end Go.Proofs.YtckmppkdpnhodaaGreatDoor

namespace Go.Proofs.YtckmppkdpnhodaaGreatDoor
set_option linter.unusedVariables false
set_option linter.unusedSimpArgs false
open Go.RowKit Go.Proofs

attribute [local go_sem ↓] Go.wp_at_zero Go.wp_at_succ

end Go.Proofs.YtckmppkdpnhodaaGreatDoor

namespace Go.Proofs.YtckmppkdpnhodaaGreatDoor
set_option linter.unusedVariables false
set_option linter.unusedSimpArgs false
open Go.ChangeShapes Go.WideShapes Go.ChangeAt Go.RowKit Go.Deep

theorem Tryz.ownK : ownKnob Tryz.prog.godebug = none := by kernel_rfl
theorem Tryz.gVerbsK : Tryz.prog.globalNamed "cartel/commands.verbs" = some 0 := by kernel_rfl
theorem Tryz.gVerbsTK : (Tryz.prog.globals[0]?).map (·.type) = some 221 := by kernel_rfl
theorem Tryz.cVerbsK : Tryz.prog.cellsOf 221 = 5 := by kernel_rfl
theorem Tryz.cStringK : Tryz.prog.cellsOf 9 = 1 := by kernel_rfl
theorem Tryz.gPowTK : (Tryz.prog.globals[3]?).map (·.type) = some 287 := by kernel_rfl
theorem Tryz.cPowK : Tryz.prog.cellsOf 287 = 20 := by kernel_rfl
theorem Tryz.cU64K : Tryz.prog.cellsOf 268 = 1 := by kernel_rfl
theorem Tryz.gRemK : Tryz.prog.globalNamed "cartel/wire.remainders" = some 1 := by kernel_rfl
theorem Tryz.gRemTK : (Tryz.prog.globals[1]?).map (·.type) = some 255 := by kernel_rfl
theorem Tryz.cRemK : Tryz.prog.cellsOf 255 = 16 := by kernel_rfl
theorem Tryz.cU32K : Tryz.prog.cellsOf 96 = 1 := by kernel_rfl

/-- What every row of this seat lists. -/
def laidK : List (String × DataW Unit) := Rows.notesRow.laid

theorem glob_of {W : World} (h : laidMetH Tryz.prog laidK W) : Glob W := by
  have h' : laidMet Tryz.prog laidK W := h
  have hp : PowAt W := tab_at Tryz.gPow Tryz.gPowTK Tryz.underlying287 Tryz.underlying268 Tryz.cU64K Tryz.cPowK h' (List.mem_cons_of_mem _ (List.mem_cons_of_mem _ (List.mem_cons_self ..)))
  have hr : Lib.TabIs Tryz.prog W "cartel/wire.remainders" .u32 (remTab.map fun n => ((n : Nat) : Int)) := tab_at Tryz.gRemK Tryz.gRemTK Tryz.underlying255 Tryz.underlying96 Tryz.cU32K Tryz.cRemK h' (List.mem_cons_of_mem _ (List.mem_cons_of_mem _ (List.mem_cons_of_mem _ (List.mem_cons_of_mem _ (List.mem_cons_self ..)))))
  have hs := strs_at (zs := [[97, 100, 100], [114, 101, 109, 111, 118, 101], [97, 112, 112, 108, 121], [114, 101, 118, 111, 107, 101], [110, 111, 116, 101]]) Tryz.gVerbsK Tryz.gVerbsTK Tryz.underlying221 Tryz.underlying9 Tryz.cStringK Tryz.cVerbsK h' (List.mem_cons_of_mem _ (List.mem_cons_of_mem _ (List.mem_cons_of_mem _ (List.mem_cons_self ..))))
  have hv : VerbsAt W := fun k => by
    cases k
    · exact hs 0 _ rfl
    · exact hs 1 _ rfl
    · exact hs 2 _ rfl
    · exact hs 3 _ rfl
    · exact hs 4 _ rfl
  have hR : RemAt W := fun i hi => by
    have hl : (remTab.map fun n => ((n : Nat) : Int)).length = 16 := by decide
    have h1 := Lib.TabIs.cell hr Tryz.gRemK i (by rw [hl]; exact hi)
    have h2 : ∀ i, i < 16 → (remTab.map fun n => ((n : Nat) : Int)).getD i 0 = ((remTab.getD i 0 : Nat) : Int) := by decide
    rw [h2 i hi] at h1
    exact h1
  exact ⟨hv, hp, hR, World.block_lt_of_cell? W _ (hv .closed), World.block_lt_of_cell? W _ (hR 0 (by omega))⟩

/-- A variable's block, with these cells in it. -/
def layCells (cs : Array Value) : Obj → Obj
  | .cells _ t frozen => .cells cs t frozen
  | o => o

theorem laid_metK (os : Os) (args : Array Value) : laidMet Tryz.prog laidK (({ World.holding Tryz.prog os ⟨#[], #[], []⟩ with heap := ((((((World.holding Tryz.prog os ⟨#[], #[], []⟩).heap.modify 0 (layCells #[.string ⟨#[97, 100, 100]⟩, .string ⟨#[114, 101, 109, 111, 118, 101]⟩, .string ⟨#[97, 112, 112, 108, 121]⟩, .string ⟨#[114, 101, 118, 111, 107, 101]⟩, .string ⟨#[110, 111, 116, 101]⟩])).modify 1 (layCells (([0, 498536548, 997073096, 651767980, 1994146192, 1802195444, 1303535960, 1342533948, 3988292384, 4027552580, 3604390888, 3412177804, 2607071920, 2262029012, 2685067896, 3183342108] : List Int).map fun z => Value.int .u32 z).toArray)).modify 3 (layCells (([1, 10, 100, 1000, 10000, 100000, 1000000, 10000000, 100000000, 1000000000, 10000000000, 100000000000, 1000000000000, 10000000000000, 100000000000000, 1000000000000000, 10000000000000000, 100000000000000000, 1000000000000000000, 10000000000000000000] : List Int).map fun z => Value.int .u64 z).toArray)).modify 4 (layCells (([0, 1, 28, 2, 29, 14, 24, 3, 30, 22, 20, 15, 25, 17, 4, 8, 31, 27, 13, 23, 21, 19, 16, 7, 26, 12, 18, 6, 11, 5, 10, 9] : List Int).map fun z => Value.int .u8 z).toArray)).modify 5 (layCells (([0, 1, 56, 2, 57, 49, 28, 3, 61, 58, 42, 50, 38, 29, 17, 4, 62, 47, 59, 36, 45, 43, 51, 22, 53, 39, 33, 30, 24, 18, 12, 5, 63, 55, 48, 27, 60, 41, 37, 16, 46, 35, 44, 21, 52, 32, 23, 11, 54, 26, 40, 15, 34, 20, 31, 10, 25, 14, 19, 9, 13, 8, 7, 6] : List Int).map fun z => Value.int .u8 z).toArray)) } : World).forCall (fun _ _ => 0) ⟨#[], args, []⟩).memory :=
  laidMet_of_run' 8 (by kernel_rfl) (by kernel_rfl)

theorem i64K {z : Int} (h : (Lit.int .i64 z).wf = true) : -9223372036854775808 ≤ z ∧ z ≤ 9223372036854775807 := by
  have h1 := (Lit.wf_int_iff .i64 z).1 h
  have e1 : IntKind.i64.min = -9223372036854775808 := by decide +kernel
  have e2 : IntKind.i64.max = 9223372036854775807 := by decide +kernel
  rw [e1, e2] at h1
  exact h1

end Go.Proofs.YtckmppkdpnhodaaGreatDoor

namespace Go.Proofs.YtckmppkdpnhodaaGreatDoor
set_option linter.unusedVariables false
set_option linter.unusedSimpArgs false
open Go.RowKit Go.Proofs

/-- What all replicas have done. -/
def unionS (n : Nat) (S : Nat → Sr) : List En := (List.range n).flatMap fun i => ownL i (S i).log

/-- The network as it stands: what was done, the clock. -/
structure Sit (n : Nat) (S : Nat → Sr) (L : List En) (now : Nat) : Prop where
  un : (unionS n S).Perm L
  tot : totalS n S = L.length
  now : ∀ i, i < n → (S i).now = now

theorem Sit.empty (n : Nat) : Sit n (fun _ => Sr.empty) [] 0 := by
  refine ⟨?_, ?_, fun _ _ => rfl⟩
  · have : unionS n (fun _ => Sr.empty) = [] := by simp [unionS, ownL, Sr.empty]
    rw [this]
  · have : ∀ m, totalS m (fun _ => Sr.empty) = 0 := fun m => by
      unfold totalS
      induction m with
      | zero => rfl
      | succ m ih => rw [sumTo_succ, ih]; rfl
    exact this n

section
variable {w0 W : World} {n LB NB gb pb pc : Nat} {rbs : Nat → Nat} {S : Nat → Sr} {L : List En} {now : Nat}

end

end Go.Proofs.YtckmppkdpnhodaaGreatDoor

namespace Go.Proofs.YtckmppkdpnhodaaGreatDoor
set_option linter.unusedVariables false
set_option linter.unusedSimpArgs false
open Go.RowKit Go.Proofs

section
variable {a b : Nat} {x1 x2 x3 x4 x5 x6 x7 : En}

end

end Go.Proofs.YtckmppkdpnhodaaGreatDoor

namespace Go.Proofs.YtckmppkdpnhodaaGreatDoor
set_option linter.unusedVariables false
set_option linter.unusedSimpArgs false
open Go.RowKit Go.Proofs

section
variable {W : World} {n gb pb pc : Nat} {rbs : Nat → Nat} {a b : Nat}

end

end Go.Proofs.YtckmppkdpnhodaaGreatDoor

namespace Go.Proofs.YtckmppkdpnhodaaGreatDoor
set_option linter.unusedVariables false
set_option linter.unusedSimpArgs false
open Go.RowKit Go.Proofs

attribute [local go_sem ↓] Go.wp_at_zero Go.wp_at_succ

end Go.Proofs.YtckmppkdpnhodaaGreatDoor

namespace Go.Proofs.YtckmppkdpnhodaaGreatDoor
set_option linter.unusedVariables false
set_option linter.unusedSimpArgs false
open Go.ChangeShapes Go.WideShapes Go.ChangeAt Go.RowKit Go.Deep

end Go.Proofs.YtckmppkdpnhodaaGreatDoor

namespace Go.Proofs.YtckmppkdpnhodaaGreatDoor
set_option linter.unusedVariables false
set_option linter.unusedSimpArgs false
open Go.RowKit Go.Proofs

/-- All blocks of a group's replicas. -/
def Side.feet (d : Side) (n : Nat) : List (Option Nat) := (List.range n).flatMap fun i => [some (d.rb i), (d.ev i).ownBlock, (d.wv i).ownBlock]

theorem Side.mem_feet {d : Side} {n b : Nat} : some b ∈ d.feet n ↔ ∃ i, i < n ∧ d.foot i b := by
  simp only [Side.feet, List.mem_flatMap, List.mem_range, List.mem_cons, List.not_mem_nil, or_false, Option.some.injEq, Side.foot]
  constructor
  · rintro ⟨i, hi, h⟩
    exact ⟨i, hi, h.imp id (Or.imp Eq.symm Eq.symm)⟩
  · rintro ⟨i, hi, h⟩
    exact ⟨i, hi, h.imp id (Or.imp Eq.symm Eq.symm)⟩

theorem Side.far_iff {d : Side} {n b : Nat} : d.far n b ↔ some b ∉ d.feet n := by
  rw [Side.mem_feet]
  constructor
  · rintro h ⟨i, hi, hf⟩; exact h i hi hf
  · intro h i hi hf; exact h ⟨i, hi, hf⟩

theorem StepM.upd {n : Nat} {W W' : World} {d d' : Side} (h : StepM n W d W' d') : Upd (d.feet n) W W' :=
  ⟨h.os, h.tape, h.output, h.size, fun b hb hm => h.block b hb (Side.far_iff.2 hm)⟩

section
variable {w0 W W' : World} {n LB LB' NB : Nat} {S S' S2 S2' : Nat → Sr} {d d' d2 d2' : Side} {g1 p1 c1 g2 p2 c2 : Nat}

end

section
variable {w0 W W' : World} {n LB NB g1 p1 c1 g2 p2 c2 : Nat} {r1 r2 : Nat → Nat} {S S2 : Nat → Sr}

end

end Go.Proofs.YtckmppkdpnhodaaGreatDoor
