/-
  Groups: replicas side by side, begun. cartelkeep.begun. (*group).come.
-/
import Derived.Test.YtckmppkdpnhodaaGreatDoorT33
import Derived.Test.YtckmppkdpnhodaaGreatDoorT02
import Derived.BigQuiet
namespace Go.Proofs.YtckmppkdpnhodaaGreatDoor
set_option linter.unusedVariables false
set_option linter.unusedSimpArgs false
open Go.RowKit Go.Proofs

/-- A group: its replicas, the block that names them. -/
structure Grp (w0 : World) (n LB NB : Nat) (S : Nat → Sr) (d : Side) (gb pb pc : Nat) (W : World) : Prop where
  net : NetS w0 n LB NB S d W
  grp : W.heap[gb]? = some (.cells #[.slice (some ⟨pb, 0, none⟩) n pc] 41 (0, 0))
  ptr : ∀ i, i < n → W.cell? ⟨pb, i, none⟩ = some (.pointer (some ⟨d.rb i, 0, none⟩))
  gfar : w0.heap.size ≤ gb ∧ d.far n gb
  pfar : w0.heap.size ≤ pb ∧ d.far n pb
  pblk : ∃ C, W.heap[pb]? = some (.cells C 38 (0, 0))

section
variable {w0 W W' : World} {n LB LB' NB : Nat} {S S' : Nat → Sr} {d d' : Side} {gb pb pc : Nat}

theorem Grp.glt (h : Grp w0 n LB NB S d gb pb pc W) : gb < W.heap.size := (Array.getElem?_eq_some_iff.1 h.grp).1
theorem Grp.plt (h : Grp w0 n LB NB S d gb pb pc W) : pb < W.heap.size := World.block_lt_of_cell? W _ (h.ptr 0 (by have := h.net.fit.n5; omega))

theorem Grp.step (h : Grp w0 n LB NB S d gb pb pc W) (hn : NetS w0 n LB' NB S' d' W') (st : StepM n W d W' d') : Grp w0 n LB' NB S' d' gb pb pc W' :=
  ⟨hn, (st.block gb h.glt h.gfar.2).trans h.grp, fun i hi => by rw [st.rb]; exact (World.cell?_of_block (a := ⟨pb, i, none⟩) (st.block pb h.plt h.pfar.2)).trans (h.ptr i hi), ⟨h.gfar.1, st.far gb h.glt h.gfar.2⟩, ⟨h.pfar.1, st.far pb h.plt h.pfar.2⟩, by obtain ⟨C, hC⟩ := h.pblk; exact ⟨C, (st.block pb h.plt h.pfar.2).trans hC⟩⟩

theorem Grp.below (h : Grp w0 n LB NB S d gb pb pc W) (hb : Below W.heap.size W W') : Grp w0 n LB NB S d gb pb pc W' := h.step (h.net.below hb) (StepM.below hb d)

theorem Grp.keep (h : Grp w0 n LB NB S d gb pb pc W) {X : List (Option Nat)} (hu : Upd X W W') (hX : ∀ b, some b ∈ X → w0.heap.size ≤ b ∧ d.far n b ∧ b ≠ gb ∧ b ≠ pb) : Grp w0 n LB NB S d gb pb pc W' :=
  ⟨h.net.keep hu fun b hb => ⟨(hX b hb).1, (hX b hb).2.1⟩, (hu.block gb h.glt fun hm => (hX gb hm).2.2.1 rfl).trans h.grp, fun i hi => hu.cell (h.ptr i hi) fun hm => (hX pb hm).2.2.2 rfl, h.gfar, h.pfar, by obtain ⟨C, hC⟩ := h.pblk; exact ⟨C, (hu.block pb h.plt fun hm => (hX pb hm).2.2.2 rfl).trans hC⟩⟩

theorem Grp.c0 (h : Grp w0 n LB NB S d gb pb pc W) : W.cell? ⟨gb, 0, none⟩ = some (.slice (some ⟨pb, 0, none⟩) n pc) := by rw [cell_of_heap h.grp]; rfl

end

set_option maxRecDepth 100000 in
set_option maxHeartbeats 1000000 in
theorem newR (n : Nat) (hn : 2 ≤ n ∧ n ≤ 5) (i : Nat) (hi : i < n) (W : World) : Calls Tryz.prog 31 #[.int .i64 (i : Int), .int .i64 (n : Int)] W fun e w' => e = .returned (.tuple #[.pointer (some ⟨W.heap.size, 0, none⟩), .int .i64 0]) ∧ w'.heap.size = W.heap.size + 1 ∧ Below W.heap.size W w' ∧ RepQ w' W.heap.size n i 0 [] 0 [] (fun _ => false) (.slice none 0 0) (.slice none 0 0) := by
  have hn5 := hn.2
  have hn2 := hn.1
  go_enter Tryz.func31, Tryz.ntmps31
  go_wp2
  go_ret2
  refine ⟨rfl, by simp, (Below.refl _ W).alloc (Nat.le_refl _) _, ?_, World.ownsRow_nil .., by simp [Value.ownBlock], World.ownsRow_nil .., by simp [Value.ownBlock], fun b hb => by simp [Value.ownBlock] at hb, fun c _ hc => by simp at hc⟩
  rw [heap_alloc_new]
  simp [repG, reachOf, cntL]

/-- While replicas are being made. -/
structure BegI (w : World) (n gb : Nat) (rbs : List Nat) (lv : Value) (W : World) : Prop where
  grp : W.heap[gb]? = some (.cells #[lv] 41 (0, 0))
  row : W.ownsRow (gb + 1) 38 1 lv rbs.length (rbs.map fun r => .pointer (some ⟨r, 0, none⟩))
  rep : ∀ (i : Nat) (r : Nat), rbs[i]? = some r → RepQ W r n i 0 [] 0 [] (fun _ => false) (.slice none 0 0) (.slice none 0 0)
  gt : ∀ r ∈ rbs, gb < r ∧ lv.ownBlock ≠ some r
  dist : rbs.Pairwise fun a b => a ≠ b
  bel : Below gb w W

theorem BegI.step {w : World} {n gb : Nat} {rbs : List Nat} {lv : Value} {W w2 w5 : World} (h : BegI w n gb rbs lv W) (hgb : w.heap.size = gb) (hb : Below W.heap.size W w2) (hs : w2.heap.size = W.heap.size + 1) (hr : RepQ w2 W.heap.size n rbs.length 0 [] 0 [] (fun _ => false) (.slice none 0 0) (.slice none 0 0)) {o : Obj} {g cap : Nat}
    (ho : w5.ownsRow (gb + 1) 38 1 (.slice (some ⟨g, 0, none⟩) (rbs.length + 1) cap) (rbs.length + 1) ((rbs.map fun r => .pointer (some ⟨r, 0, none⟩)) ++ [.pointer (some ⟨W.heap.size, 0, none⟩)])) (hg : (w2.alloc o).grownBy w5 lv.ownBlock) (hat : lv.ownBlock = some g ∨ g = w2.heap.size + 1) :
    BegI w n gb (rbs ++ [W.heap.size]) (.slice (some ⟨g, 0, none⟩) (rbs.length + 1) cap) (w5.setCell ⟨gb, 0, none⟩ (.slice (some ⟨g, 0, none⟩) (rbs.length + 1) cap)) := by
  have hgl := (Array.getElem?_eq_some_iff.1 h.grp).1
  have hlv : ∀ b, lv.ownBlock = some b → gb < b ∧ b < W.heap.size := fun b hb => ⟨own_ge h.row hb, (h.row.lt b hb).2⟩
  have u5 : Upd [lv.ownBlock] w2 w5 := ((Upd.refl _ w2).alloc o).grown hg fun b hb => .inl (by simp [hb])
  have ne : ∀ b, lv.ownBlock ≠ some b → some b ∉ [lv.ownBlock] := fun b hne hm => hne (List.mem_singleton.1 hm).symm
  have hg5 : w5.heap[gb]? = some (.cells #[lv] 41 (0, 0)) := (u5.block gb (by omega) (ne gb fun e => by have := (hlv gb e).1; omega)).trans ((hb.block gb hgl).trans h.grp)
  have hgg : gb < g := own_ge ho (b := g) rfl
  have us : Upd [some gb] w5 (w5.setCell ⟨gb, 0, none⟩ (.slice (some ⟨g, 0, none⟩) (rbs.length + 1) cap)) := (Upd.refl _ w5).setCell (.inl (by simp)) _
  have nn : ∀ {b : Nat}, (Value.slice none 0 0).ownBlock = some b → ∀ X : List (Option Nat), some b ∉ X := fun hb => by simp [Value.ownBlock] at hb
  have keep : ∀ {r i : Nat}, RepQ w2 r n i 0 [] 0 [] (fun _ => false) (.slice none 0 0) (.slice none 0 0) → lv.ownBlock ≠ some r → gb < r → RepQ (w5.setCell ⟨gb, 0, none⟩ (.slice (some ⟨g, 0, none⟩) (rbs.length + 1) cap)) r n i 0 [] 0 [] (fun _ => false) (.slice none 0 0) (.slice none 0 0) := fun hq h1 h2 =>
    (hq.keep u5 (ne _ h1) (fun _ hb => nn hb _) fun _ hb => nn hb _).keep us (by simp; omega) (fun _ hb => nn hb _) fun _ hb => nn hb _
  refine ⟨by rw [heap_setCell_same hg5]; rfl, ?_, fun i r hir => ?_, fun r hr' => ?_, ?_, ?_⟩
  · rw [List.length_append, List.map_append]
    exact owns_setCell_other ho (fun b hb => by cases hb; show g ≠ gb; omega) _
  · by_cases hi : i < rbs.length
    · rw [List.getElem?_append_left hi] at hir
      have hm := List.mem_of_getElem? hir
      exact keep ((h.rep i r hir).below hb) (h.gt r hm).2 (h.gt r hm).1
    · have hi2 : i = rbs.length := by
        have := (List.getElem?_eq_some_iff.1 hir).1
        simp at this; omega
      subst hi2
      simp at hir
      subst hir
      exact keep hr (fun e => by have := (hlv _ e).2; omega) (by omega)
  · rcases List.mem_append.1 hr' with hr' | hr'
    · refine ⟨(h.gt r hr').1, fun e => ?_⟩
      have e' : g = r := by cases e; rfl
      subst e'
      rcases hat with e2 | e2
      · exact (h.gt g hr').2 e2
      · obtain ⟨i, hi, rfl⟩ := List.mem_iff_getElem.1 hr'
        have := (h.rep i _ (List.getElem?_eq_getElem hi)).lt
        omega
    · simp at hr'
      subst hr'
      refine ⟨by omega, fun e => ?_⟩
      have e' : g = W.heap.size := by cases e; rfl
      rcases hat with e2 | e2
      · have := (hlv g e2).2; omega
      · omega
  · rw [List.pairwise_append]
    refine ⟨h.dist, List.pairwise_singleton _ _, fun a ha b hb e => ?_⟩
    simp at hb
    subst hb
    subst e
    obtain ⟨i, hi, he⟩ := List.mem_iff_getElem.1 ha
    have := (h.rep i _ (by rw [List.getElem?_eq_getElem hi, he])).lt
    omega
  · have hs0 := h.bel.size
    refine ⟨u5.os.trans (hb.os.trans h.bel.os), u5.tape.trans (hb.tape.trans h.bel.tape), u5.output.trans (hb.output.trans h.bel.output), ?_, fun b hbl => ?_⟩
    · rw [size_setCell]; have := u5.size; omega
    · rw [Below.heap_setCell _ _ _ _ (by show b ≠ gb; omega), u5.block b (by omega) (ne b fun e => by have := (hlv b e).1; omega), hb.block b (by omega)]
      exact h.bel.block b hbl

/-- All are made. -/
theorem BegI.grp' {w0 w : World} {n gb : Nat} (hn : 2 ≤ n ∧ n ≤ 5) {rbs : List Nat} {lv : Value} {W : World} (h : BegI w n gb rbs lv W) (hl : rbs.length = n) (hgb : w.heap.size = gb) (hw : w0.heap.size ≤ w.heap.size) (ho : ∀ b, b < w0.heap.size → w.heap[b]? = w0.heap[b]?) {LB NB : Nat} (hLB : LB ≤ 4294900000) (hNB : NB ≤ 1000000000000000) :
    ∃ d pb pc, Grp w0 n LB NB (fun _ => Sr.empty) d gb pb pc W := by
  obtain ⟨pb, pc, hlv, hge, hplt⟩ := h.row.form (by omega)
  have hrb : ∀ i, i < n → rbs[i]? = some (rbs.getD i 0) := fun i hi => by rw [List.getD_eq_getElem?_getD, List.getElem?_eq_getElem (by omega)]; rfl
  have hfoot : ∀ i b, (⟨fun i => rbs.getD i 0, fun _ => .slice none 0 0, fun _ => .slice none 0 0, fun _ => []⟩ : Side).foot i b ↔ b = rbs.getD i 0 := fun i b => by simp [Side.foot, Value.ownBlock]
  have hgt : ∀ i, i < n → gb < rbs.getD i 0 ∧ lv.ownBlock ≠ some (rbs.getD i 0) := fun i hi => h.gt _ (List.mem_of_getElem? (hrb i hi))
  refine ⟨⟨fun i => rbs.getD i 0, fun _ => .slice none 0 0, fun _ => .slice none 0 0, fun _ => []⟩, pb, pc, ⟨⟨fun i hi => h.rep i _ (hrb i hi), fun _ _ => List.Perm.refl _, fun i j hi hj hij b h1 h2 => ?_⟩, NetOk.empty n, ⟨hn, ?_, hLB, fun _ _ => Nat.zero_le _, hNB, fun _ _ x hx => by simp [Sr.empty] at hx⟩, ?_, fun b hb => ⟨?_, fun j hj hf => ?_⟩⟩, ?_, fun i hi => ?_, ⟨by omega, fun j hj hf => ?_⟩, ⟨by omega, fun j hj hf => ?_⟩, ?_⟩
  · rw [hfoot] at h1 h2
    have h1' := hrb i hi
    have h2' := hrb j hj
    rw [← h1] at h1'
    rw [← h2] at h2'
    obtain ⟨hi', e1⟩ := List.getElem?_eq_some_iff.1 h1'
    obtain ⟨hj', e2⟩ := List.getElem?_eq_some_iff.1 h2'
    rcases Nat.lt_or_gt_of_ne hij with hlt | hlt
    · exact List.pairwise_iff_getElem.1 h.dist i j hi' hj' hlt (e1.trans e2.symm)
    · exact List.pairwise_iff_getElem.1 h.dist j i hj' hi' hlt (e2.trans e1.symm)
  · have : ∀ m, totalS m (fun _ => Sr.empty) = 0 := fun m => by
      unfold totalS
      induction m with
      | zero => rfl
      | succ m ih => rw [sumTo_succ, ih]; rfl
    rw [this]; omega
  · have := h.bel.size; omega
  · exact (h.bel.block b (by omega)).trans (ho b hb)
  · rw [hfoot] at hf; have := (hgt j hj).1; omega
  · rw [h.grp, hlv, hl]
  · have := h.row.cells (g := pb) (by rw [hlv]; rfl) i (.pointer (some ⟨rbs.getD i 0, 0, none⟩)) (by rw [List.getElem?_map, hrb i hi]; rfl)
    rwa [Addr.add_mid, Nat.zero_add] at this
  · rw [hfoot] at hf; have := (hgt j hj).1; omega
  · rw [hfoot] at hf
    exact (hgt j hj).2 (by rw [hlv, hf]; rfl)
  · rcases h.row.2 with ⟨h1, -⟩ | ⟨g', c', cur, h1, -, hg, -⟩
    · rw [h1] at hlv; simp at hlv
    · rw [h1] at hlv
      have e : g' = pb := by simp at hlv; exact hlv.1
      rw [e] at hg
      exact ⟨cur, hg⟩

end Go.Proofs.YtckmppkdpnhodaaGreatDoor

namespace Go.Proofs.YtckmppkdpnhodaaGreatDoor
set_option linter.unusedVariables false
set_option linter.unusedSimpArgs false
open Go.RowKit Go.Proofs

attribute [local go_sem ↓] Go.wp_at_zero Go.wp_at_succ

set_option maxRecDepth 100000 in
set_option maxHeartbeats 4000000 in
theorem begunG (n : Nat) (hn : 2 ≤ n ∧ n ≤ 5) (w : World) : Calls Tryz.prog 19 #[.int .i64 (n : Int)] w fun e w' => ∃ rbs lv, e = .returned (.pointer (some ⟨w.heap.size, 0, none⟩)) ∧ rbs.length = n ∧ BegI w n w.heap.size rbs lv w' := by
  obtain ⟨iP, hi0, hi1, hi2, hi3⟩ := info_parts Tryz.info_rep
  have HN : Hid (2 ≤ n ∧ n ≤ 5) := hn
  have hn5 := hn.2
  clear hn
  go_enter Tryz.func19, Tryz.ntmps19
  go_wp2
  have HST : Hid (BegI w n w.heap.size [] (.slice none 0 0) (w.alloc (.cells #[.slice none 0 0] 41))) := ⟨heap_alloc_new w _, World.ownsRow_nil .., by simp, by simp, List.Pairwise.nil, (Below.refl _ w).alloc (Nat.le_refl _) _⟩
  generalize hgb : w.heap.size = gb at *
  go_loopw [4] (fun v wr => ∃ (rbs : List Nat) (lv : Value), rbs.length ≤ n ∧ v = .int .i64 (rbs.length : Int) ∧ Hid (BegI w n gb rbs lv wr)) (fun v _ => n - (intOf v).toNat)
  case atStart => exact ⟨[], _, by simp, rfl, HST⟩
  case round =>
    obtain ⟨rbs, lv, hl, rfl, HI⟩ := hrel
    by_cases hlt : rbs.length < n
    · have HNW : Hid (Calls Tryz.prog 31 #[.int .i64 (rbs.length : Int), .int .i64 (n : Int)] wr fun e w' => e = .returned (.tuple #[.pointer (some ⟨wr.heap.size, 0, none⟩), .int .i64 0]) ∧ w'.cell? ⟨gb, 0, none⟩ = some lv ∧ w'.frozen? ⟨gb, 0, none⟩ = false ∧ Hid (w'.heap.size = wr.heap.size + 1 ∧ Below wr.heap.size wr w' ∧ RepQ w' wr.heap.size n rbs.length 0 [] 0 [] (fun _ => false) (.slice none 0 0) (.slice none 0 0))) := by
        refine (newR n HN.out rbs.length hlt wr).mono ?_
        rintro e w' ⟨h1, h2, h3, h4⟩
        have hg := (h3.block gb (Array.getElem?_eq_some_iff.1 HI.out.grp).1).trans HI.out.grp
        exact ⟨h1, by rw [cell_of_heap hg]; rfl, frozen_of_heap hg 0, h2, h3, h4⟩
      obtain ⟨pl, cl, hlv⟩ := own_form HI.out.row
      subst hlv
      have hgl : gb < wr.heap.size := (Array.getElem?_eq_some_iff.1 HI.out.grp).1
      have hlb : ∀ b, (Value.slice pl rbs.length cl).ownBlock = some b → gb < b := fun b hb => own_ge HI.out.row hb
      generalize hL : rbs.length = L at *
      go_wp2_with (first
        | (go_at_call 31; refine HNW.out.mono ?_; rintro e w2 ⟨rfl, c2, f2, H2⟩; have hs2 : wr.heap.size < w2.heap.size := (by have := H2.out.1; omega); have HR2 : Hid (∀ o, (w2.alloc o).ownsRow (gb + 1) 38 1 (.slice pl L cl) L (rbs.map fun r => .pointer (some ⟨r, 0, none⟩))) := fun o => (Upd.alloc (Upd.refl [] w2) o).owns ((Upd.of_below (S := []) H2.out.2.1).owns (by have := HI.out.row; rwa [hL] at this) (by simp)) (by simp); have n2 := World.new_ne w2 _ c2)
        | (at_builtin; refine wpList_append_lies _ rfl _ _ 39 rfl (gb + 1) 38 iP (.pointer none) 1 8 Tryz.underlying39 hi0 hi1 hi2 hi3 rfl (by decide) (.slice pl L cl) L (rbs.map fun r => .pointer (some ⟨r, 0, none⟩)) (by rfl) (HR2.out _) ⟨w2.heap.size, 0, none⟩ 1 1 [.pointer (some ⟨wr.heap.size, 0, none⟩)] (by rfl) (by rfl) (World.news_of_block (heap_alloc_new _ _)) (by simp [Value.oneCell']) (by omega) (by unfold maxLen; omega) (by omega) (by simp; omega) (w2.heap.size + 1) (by simp) ?_; intro g5 cap5 w5 ho5 hg5 hat5 hgl5; have s5 : w5.cell? ⟨gb, 0, none⟩ = some (.slice pl L cl) := (hg5.cell_far ⟨gb, 0, none⟩ (by first | (simp; done) | (simp; omega)) (fun e => by have := hlb gb e.symm; omega)).trans ((World.cell?_of_block (a := ⟨gb, 0, none⟩) (Below.heap_alloc w2 _ gb (by omega))).trans c2); have sf : w5.frozen? ⟨gb, 0, none⟩ = false := (hg5.frozen_far ⟨gb, 0, none⟩ (by first | (simp; done) | (simp; omega)) (fun e => by have := hlb gb e.symm; omega)).trans ((World.frozen?_of_block (a := ⟨gb, 0, none⟩) (Below.heap_alloc w2 _ gb (by omega))).trans f2)))
      go_roundw
      case rel =>
        have hI := HI.out
        subst hL
        have R := hI.step hgb H2.out.2.1 H2.out.1 H2.out.2.2 ho5 hg5 hat5
        exact ⟨rbs ++ [wr.heap.size], _, by rw [List.length_append]; simp; omega, by rw [List.length_append]; simp, R⟩
      case measure => simp [intOf]; omega
    · have hn : rbs.length = n := by omega
      go_wp2
      go_ret
      exact ⟨rbs, lv, by rw [hgb]; rfl, hn, by rw [hgb]; exact HI.out⟩

end Go.Proofs.YtckmppkdpnhodaaGreatDoor

namespace Go.Proofs.YtckmppkdpnhodaaGreatDoor
set_option linter.unusedVariables false
set_option linter.unusedSimpArgs false
open Go.RowKit Go.Proofs

theorem bytes_below {w w' : World} {z off c : Nat} {f : List UInt8} (h : BytesAt w (.slice (some ⟨z, off, none⟩) f.length c) f) (hb : Below w.heap.size w w') : BytesAt w' (.slice (some ⟨z, off, none⟩) f.length c) f := by
  obtain ⟨p', c', h1, h2⟩ := h
  exact ⟨p', c', h1, fun i x hx => by obtain ⟨b', o', h3, h4⟩ := h2 i x hx; exact ⟨b', o', h3, cell_below hb h4⟩⟩

set_option maxRecDepth 100000 in
set_option maxHeartbeats 8000000 in
theorem comeG {w0 W : World} {n LB NB : Nat} {S : Nat → Sr} {d : Side} {gb pb pc : Nat} (h : Grp w0 n LB NB S d gb pb pc W) (hg : Glob w0) {L : Lt} (hL : LtOk n S L) {z off c : Nat} {f : List UInt8} (hf : Bears L f) (hc : f.length ≤ c) (hc9 : c ≤ 9223372036854775807) (hz : z < W.heap.size) (hzf : d.far n z) (hb : BytesAt W (.slice (some ⟨z, off, none⟩) f.length c) f) :
    Calls Tryz.prog 27 #[.pointer (some ⟨gb, 0, none⟩), .agg #[.int .i64 (L.src : Int), .int .i64 (L.dst : Int), .slice (some ⟨z, off, none⟩) f.length c]] W fun e w' => e = .returned (.bool true) ∧ ∃ d', Grp w0 n LB NB (updS S L.dst (takeS (S L.dst) L)) d' gb pb pc w' ∧ StepM n W d w' d' := by
  have hdl := hL.dst
  have hne := hL.ne
  have hn5 := h.net.fit.n5
  obtain ⟨wa, hwa⟩ : ∃ wa, W.alloc (.cells #[.int .i64 (L.src : Int), .int .i64 (L.dst : Int), .slice (some ⟨z, off, none⟩) f.length c] 59) = wa := ⟨_, rfl⟩
  have hea : wa.heap[W.heap.size]? = some (.cells #[.int .i64 (L.src : Int), .int .i64 (L.dst : Int), .slice (some ⟨z, off, none⟩) f.length c] 59 (0, 0)) := by rw [← hwa]; exact heap_alloc_new W _
  have hba : Below W.heap.size W wa := by rw [← hwa]; exact (Below.refl _ W).alloc (Nat.le_refl _) _
  have hsa : wa.heap.size = W.heap.size + 1 := by rw [← hwa]; simp
  have HRC : Hid (∀ W', Below wa.heap.size wa W' → Calls Tryz.prog 30 #[.pointer (some ⟨d.rb L.dst, 0, none⟩), .int .i64 (L.src : Int), .slice (some ⟨z, off, none⟩) f.length c] W' fun e w' => e = .returned (.tuple #[]) ∧ (∃ d', Grp w0 n LB NB (updS S L.dst (takeS (S L.dst) L)) d' gb pb pc w' ∧ StepM n W d w' d') ∧ w'.cell? ⟨gb, 0, none⟩ = some (.slice (some ⟨pb, 0, none⟩) n pc) ∧ w'.cell? ⟨pb, L.dst, none⟩ = some (.pointer (some ⟨d.rb L.dst, 0, none⟩)) ∧ w'.heap[W.heap.size]? = some (.cells #[.int .i64 (L.src : Int), .int .i64 (L.dst : Int), .slice (some ⟨z, off, none⟩) f.length c] 59 (0, 0))) := fun W' hW' => by
    have hW : Below W.heap.size W W' := hba.trans (hW'.mono (by omega))
    have hgr := h.below hW
    refine (receiveN hgr.net hg hL hf hc hc9 (Nat.lt_of_lt_of_le hz hW.size) hzf (bytes_below hb hW)).mono ?_
    rintro e w' ⟨he, d', hn, hst⟩
    have hg2 := hgr.step hn hst
    have hrb := hst.rb L.dst
    refine ⟨he, ⟨d', hg2, (StepM.below hW d).trans hst⟩, hg2.c0, by have := hg2.ptr _ hdl; rwa [hrb] at this, ?_⟩
    have hss := hW'.size
    exact (hst.block _ (by omega) (h.net.m.new (Nat.le_refl _))).trans ((hW'.block _ (by omega)).trans hea)
  have c0 := cell_below hba h.c0
  have c1 := cell_below hba (h.ptr _ hdl)
  have a0 : wa.cell? ⟨W.heap.size, 0, none⟩ = some (.int .i64 (L.src : Int)) := by rw [cell_of_heap hea]; rfl
  have a1 : wa.cell? ⟨W.heap.size, 1, none⟩ = some (.int .i64 (L.dst : Int)) := by rw [cell_of_heap hea]; rfl
  have e1 : decide ((L.dst : Int) < 0) = false := decide_eq_false (by omega)
  have e2 : decide ((n : Int) ≤ (L.dst : Int)) = false := decide_eq_false (by omega)
  have e3 : ((L.dst : Int) == (L.src : Int)) = false := beq_eq_false_iff_ne.2 (by omega)
  have hix0 : (0 : Int) ≤ (L.dst : Int) := by omega
  have hix1 : (L.dst : Int) < (n : Int) := by omega
  have hmx : Tryz.prog.follows .mixedOrders = true := by kernel_rfl
  clear h hb hL hf hz hzf
  generalize d.rb L.dst = rbd at *
  go_enter Tryz.func27, Tryz.ntmps27
  go_upto_region 1 with fail
  (try rw [hwa])
  clear hwa
  generalize hsb : W.heap.size = sb at *
  go_quiet (fail)
  go_upto_region 3 with fail
  have HR2 := HRC.out (wa.drewN nq).drew ((below_drewN (Below.refl _ wa) nq).drew)
  have hS : (fun w' : World => w'.cell? ⟨gb, 0, none⟩ = some (.slice (some ⟨pb, 0, none⟩) n pc) ∧ w'.cell? ⟨pb, L.dst, none⟩ = some (.pointer (some ⟨rbd, 0, none⟩)) ∧ w'.heap[sb]? = some (.cells #[.int .i64 (L.src : Int), .int .i64 (L.dst : Int), .slice (some ⟨z, off, none⟩) f.length c] 59 (0, 0))) (wa.drewN nq).drew := ⟨c0, c1, hea⟩
  generalize wa.drewN nq = w1 at *
  refine wp_region_held (S := (fun w' : World => w'.cell? ⟨gb, 0, none⟩ = some (.slice (some ⟨pb, 0, none⟩) n pc) ∧ w'.cell? ⟨pb, L.dst, none⟩ = some (.pointer (some ⟨rbd, 0, none⟩)) ∧ w'.heap[sb]? = some (.cells #[.int .i64 (L.src : Int), .int .i64 (L.dst : Int), .slice (some ⟨z, off, none⟩) f.length c] 59 (0, 0)))) hmx ?_
  refine wpAnyH_take (i := 0) (v := (.pointer (some ⟨gb, 0, none⟩))) rfl (by kernel_rfl) (by kernel_rfl) (by kernel_rfl) (fun _ _ _ h => h) (Or.inl ⟨by rfl, ?_⟩) hS ?_
  · intro W hSw
    obtain ⟨s0, s1, sb'⟩ := hSw
    have t0 : W.cell? ⟨sb, 0, none⟩ = some (.int .i64 (L.src : Int)) := by rw [cell_of_heap sb']; rfl
    have t1 : W.cell? ⟨sb, 1, none⟩ = some (.int .i64 (L.dst : Int)) := by rw [cell_of_heap sb']; rfl
    have t2 : W.cell? ⟨sb, 2, none⟩ = some (.slice (some ⟨z, off, none⟩) f.length c) := by rw [cell_of_heap sb']; rfl
    go_simp
  dsimp only [List.getElem_toArray, List.getElem_cons_zero, List.getElem_cons_succ]
  simp only [Act.put, List.setIfInBounds_toArray, List.set_cons_zero, List.set_cons_succ]
  refine wpAnyH_take (i := 1) (v := (.pointer (some ⟨gb, 0, none⟩))) rfl (by kernel_rfl) (by kernel_rfl) (by kernel_rfl) (fun _ _ _ h => h) (Or.inl ⟨by rfl, ?_⟩) hS ?_
  · intro W hSw
    obtain ⟨s0, s1, sb'⟩ := hSw
    have t0 : W.cell? ⟨sb, 0, none⟩ = some (.int .i64 (L.src : Int)) := by rw [cell_of_heap sb']; rfl
    have t1 : W.cell? ⟨sb, 1, none⟩ = some (.int .i64 (L.dst : Int)) := by rw [cell_of_heap sb']; rfl
    have t2 : W.cell? ⟨sb, 2, none⟩ = some (.slice (some ⟨z, off, none⟩) f.length c) := by rw [cell_of_heap sb']; rfl
    go_simp
  dsimp only [List.getElem_toArray, List.getElem_cons_zero, List.getElem_cons_succ]
  simp only [Act.put, List.setIfInBounds_toArray, List.set_cons_zero, List.set_cons_succ]
  refine wpAnyH_take (i := 2) (v := (.pointer (some ⟨gb, 0, none⟩))) rfl (by kernel_rfl) (by kernel_rfl) (by kernel_rfl) (fun _ _ _ h => h) (Or.inl ⟨by rfl, ?_⟩) hS ?_
  · intro W hSw
    obtain ⟨s0, s1, sb'⟩ := hSw
    have t0 : W.cell? ⟨sb, 0, none⟩ = some (.int .i64 (L.src : Int)) := by rw [cell_of_heap sb']; rfl
    have t1 : W.cell? ⟨sb, 1, none⟩ = some (.int .i64 (L.dst : Int)) := by rw [cell_of_heap sb']; rfl
    have t2 : W.cell? ⟨sb, 2, none⟩ = some (.slice (some ⟨z, off, none⟩) f.length c) := by rw [cell_of_heap sb']; rfl
    go_simp
  dsimp only [List.getElem_toArray, List.getElem_cons_zero, List.getElem_cons_succ]
  simp only [Act.put, List.setIfInBounds_toArray, List.set_cons_zero, List.set_cons_succ]
  refine wpAnyH_take (i := 3) (v := (.slice (some ⟨pb, 0, none⟩) n pc)) rfl (by kernel_rfl) (by kernel_rfl) (by kernel_rfl) (fun _ _ _ h => h) (Or.inl ⟨by rfl, ?_⟩) hS ?_
  · intro W hSw
    obtain ⟨s0, s1, sb'⟩ := hSw
    have t0 : W.cell? ⟨sb, 0, none⟩ = some (.int .i64 (L.src : Int)) := by rw [cell_of_heap sb']; rfl
    have t1 : W.cell? ⟨sb, 1, none⟩ = some (.int .i64 (L.dst : Int)) := by rw [cell_of_heap sb']; rfl
    have t2 : W.cell? ⟨sb, 2, none⟩ = some (.slice (some ⟨z, off, none⟩) f.length c) := by rw [cell_of_heap sb']; rfl
    go_simp
  dsimp only [List.getElem_toArray, List.getElem_cons_zero, List.getElem_cons_succ]
  simp only [Act.put, List.setIfInBounds_toArray, List.set_cons_zero, List.set_cons_succ]
  refine wpAnyH_take (i := 4) (v := (.pointer (some ⟨sb, 1, none⟩))) rfl (by kernel_rfl) (by kernel_rfl) (by kernel_rfl) (fun _ _ _ h => h) (Or.inl ⟨by rfl, ?_⟩) hS ?_
  · intro W hSw
    obtain ⟨s0, s1, sb'⟩ := hSw
    have t0 : W.cell? ⟨sb, 0, none⟩ = some (.int .i64 (L.src : Int)) := by rw [cell_of_heap sb']; rfl
    have t1 : W.cell? ⟨sb, 1, none⟩ = some (.int .i64 (L.dst : Int)) := by rw [cell_of_heap sb']; rfl
    have t2 : W.cell? ⟨sb, 2, none⟩ = some (.slice (some ⟨z, off, none⟩) f.length c) := by rw [cell_of_heap sb']; rfl
    go_simp
  dsimp only [List.getElem_toArray, List.getElem_cons_zero, List.getElem_cons_succ]
  simp only [Act.put, List.setIfInBounds_toArray, List.set_cons_zero, List.set_cons_succ]
  refine wpAnyH_take (i := 5) (v := (.pointer (some ⟨sb, 1, none⟩))) rfl (by kernel_rfl) (by kernel_rfl) (by kernel_rfl) (fun _ _ _ h => h) (Or.inl ⟨by rfl, ?_⟩) hS ?_
  · intro W hSw
    obtain ⟨s0, s1, sb'⟩ := hSw
    have t0 : W.cell? ⟨sb, 0, none⟩ = some (.int .i64 (L.src : Int)) := by rw [cell_of_heap sb']; rfl
    have t1 : W.cell? ⟨sb, 1, none⟩ = some (.int .i64 (L.dst : Int)) := by rw [cell_of_heap sb']; rfl
    have t2 : W.cell? ⟨sb, 2, none⟩ = some (.slice (some ⟨z, off, none⟩) f.length c) := by rw [cell_of_heap sb']; rfl
    go_simp
  dsimp only [List.getElem_toArray, List.getElem_cons_zero, List.getElem_cons_succ]
  simp only [Act.put, List.setIfInBounds_toArray, List.set_cons_zero, List.set_cons_succ]
  refine wpAnyH_take (i := 6) (v := (.int .i64 (L.dst : Int))) rfl (by kernel_rfl) (by kernel_rfl) (by kernel_rfl) (fun _ _ _ h => h) (Or.inl ⟨by rfl, ?_⟩) hS ?_
  · intro W hSw
    obtain ⟨s0, s1, sb'⟩ := hSw
    have t0 : W.cell? ⟨sb, 0, none⟩ = some (.int .i64 (L.src : Int)) := by rw [cell_of_heap sb']; rfl
    have t1 : W.cell? ⟨sb, 1, none⟩ = some (.int .i64 (L.dst : Int)) := by rw [cell_of_heap sb']; rfl
    have t2 : W.cell? ⟨sb, 2, none⟩ = some (.slice (some ⟨z, off, none⟩) f.length c) := by rw [cell_of_heap sb']; rfl
    go_simp
  dsimp only [List.getElem_toArray, List.getElem_cons_zero, List.getElem_cons_succ]
  simp only [Act.put, List.setIfInBounds_toArray, List.set_cons_zero, List.set_cons_succ]
  refine wpAnyH_take (i := 7) (v := (.pointer (some ⟨pb, L.dst, none⟩))) rfl (by kernel_rfl) (by kernel_rfl) (by kernel_rfl) (fun _ _ _ h => h) (Or.inl ⟨by rfl, ?_⟩) hS ?_
  · intro W hSw
    obtain ⟨s0, s1, sb'⟩ := hSw
    have t0 : W.cell? ⟨sb, 0, none⟩ = some (.int .i64 (L.src : Int)) := by rw [cell_of_heap sb']; rfl
    have t1 : W.cell? ⟨sb, 1, none⟩ = some (.int .i64 (L.dst : Int)) := by rw [cell_of_heap sb']; rfl
    have t2 : W.cell? ⟨sb, 2, none⟩ = some (.slice (some ⟨z, off, none⟩) f.length c) := by rw [cell_of_heap sb']; rfl
    go_simp
  dsimp only [List.getElem_toArray, List.getElem_cons_zero, List.getElem_cons_succ]
  simp only [Act.put, List.setIfInBounds_toArray, List.set_cons_zero, List.set_cons_succ]
  refine wpAnyH_take (i := 8) (v := (.pointer (some ⟨rbd, 0, none⟩))) rfl (by kernel_rfl) (by kernel_rfl) (by kernel_rfl) (fun _ _ _ h => h) (Or.inl ⟨by rfl, ?_⟩) hS ?_
  · intro W hSw
    obtain ⟨s0, s1, sb'⟩ := hSw
    have t0 : W.cell? ⟨sb, 0, none⟩ = some (.int .i64 (L.src : Int)) := by rw [cell_of_heap sb']; rfl
    have t1 : W.cell? ⟨sb, 1, none⟩ = some (.int .i64 (L.dst : Int)) := by rw [cell_of_heap sb']; rfl
    have t2 : W.cell? ⟨sb, 2, none⟩ = some (.slice (some ⟨z, off, none⟩) f.length c) := by rw [cell_of_heap sb']; rfl
    go_simp
  dsimp only [List.getElem_toArray, List.getElem_cons_zero, List.getElem_cons_succ]
  simp only [Act.put, List.setIfInBounds_toArray, List.set_cons_zero, List.set_cons_succ]
  refine wpAnyH_take (i := 9) (v := (.pointer (some ⟨sb, 0, none⟩))) rfl (by kernel_rfl) (by kernel_rfl) (by kernel_rfl) (fun _ _ _ h => h) (Or.inl ⟨by rfl, ?_⟩) hS ?_
  · intro W hSw
    obtain ⟨s0, s1, sb'⟩ := hSw
    have t0 : W.cell? ⟨sb, 0, none⟩ = some (.int .i64 (L.src : Int)) := by rw [cell_of_heap sb']; rfl
    have t1 : W.cell? ⟨sb, 1, none⟩ = some (.int .i64 (L.dst : Int)) := by rw [cell_of_heap sb']; rfl
    have t2 : W.cell? ⟨sb, 2, none⟩ = some (.slice (some ⟨z, off, none⟩) f.length c) := by rw [cell_of_heap sb']; rfl
    go_simp
  dsimp only [List.getElem_toArray, List.getElem_cons_zero, List.getElem_cons_succ]
  simp only [Act.put, List.setIfInBounds_toArray, List.set_cons_zero, List.set_cons_succ]
  refine wpAnyH_take (i := 10) (v := (.int .i64 (L.src : Int))) rfl (by kernel_rfl) (by kernel_rfl) (by kernel_rfl) (fun _ _ _ h => h) (Or.inl ⟨by rfl, ?_⟩) hS ?_
  · intro W hSw
    obtain ⟨s0, s1, sb'⟩ := hSw
    have t0 : W.cell? ⟨sb, 0, none⟩ = some (.int .i64 (L.src : Int)) := by rw [cell_of_heap sb']; rfl
    have t1 : W.cell? ⟨sb, 1, none⟩ = some (.int .i64 (L.dst : Int)) := by rw [cell_of_heap sb']; rfl
    have t2 : W.cell? ⟨sb, 2, none⟩ = some (.slice (some ⟨z, off, none⟩) f.length c) := by rw [cell_of_heap sb']; rfl
    go_simp
  dsimp only [List.getElem_toArray, List.getElem_cons_zero, List.getElem_cons_succ]
  simp only [Act.put, List.setIfInBounds_toArray, List.set_cons_zero, List.set_cons_succ]
  refine wpAnyH_take (i := 11) (v := (.pointer (some ⟨sb, 1, none⟩))) rfl (by kernel_rfl) (by kernel_rfl) (by kernel_rfl) (fun _ _ _ h => h) (Or.inl ⟨by rfl, ?_⟩) hS ?_
  · intro W hSw
    obtain ⟨s0, s1, sb'⟩ := hSw
    have t0 : W.cell? ⟨sb, 0, none⟩ = some (.int .i64 (L.src : Int)) := by rw [cell_of_heap sb']; rfl
    have t1 : W.cell? ⟨sb, 1, none⟩ = some (.int .i64 (L.dst : Int)) := by rw [cell_of_heap sb']; rfl
    have t2 : W.cell? ⟨sb, 2, none⟩ = some (.slice (some ⟨z, off, none⟩) f.length c) := by rw [cell_of_heap sb']; rfl
    go_simp
  dsimp only [List.getElem_toArray, List.getElem_cons_zero, List.getElem_cons_succ]
  simp only [Act.put, List.setIfInBounds_toArray, List.set_cons_zero, List.set_cons_succ]
  refine wpAnyH_take (i := 12) (v := (.pointer (some ⟨sb, 2, none⟩))) rfl (by kernel_rfl) (by kernel_rfl) (by kernel_rfl) (fun _ _ _ h => h) (Or.inl ⟨by rfl, ?_⟩) hS ?_
  · intro W hSw
    obtain ⟨s0, s1, sb'⟩ := hSw
    have t0 : W.cell? ⟨sb, 0, none⟩ = some (.int .i64 (L.src : Int)) := by rw [cell_of_heap sb']; rfl
    have t1 : W.cell? ⟨sb, 1, none⟩ = some (.int .i64 (L.dst : Int)) := by rw [cell_of_heap sb']; rfl
    have t2 : W.cell? ⟨sb, 2, none⟩ = some (.slice (some ⟨z, off, none⟩) f.length c) := by rw [cell_of_heap sb']; rfl
    go_simp
  dsimp only [List.getElem_toArray, List.getElem_cons_zero, List.getElem_cons_succ]
  simp only [Act.put, List.setIfInBounds_toArray, List.set_cons_zero, List.set_cons_succ]
  refine wpAnyH_take (i := 13) (v := (.slice (some ⟨z, off, none⟩) f.length c)) rfl (by kernel_rfl) (by kernel_rfl) (by kernel_rfl) (fun _ _ _ h => h) (Or.inl ⟨by rfl, ?_⟩) hS ?_
  · intro W hSw
    obtain ⟨s0, s1, sb'⟩ := hSw
    have t0 : W.cell? ⟨sb, 0, none⟩ = some (.int .i64 (L.src : Int)) := by rw [cell_of_heap sb']; rfl
    have t1 : W.cell? ⟨sb, 1, none⟩ = some (.int .i64 (L.dst : Int)) := by rw [cell_of_heap sb']; rfl
    have t2 : W.cell? ⟨sb, 2, none⟩ = some (.slice (some ⟨z, off, none⟩) f.length c) := by rw [cell_of_heap sb']; rfl
    go_simp
  dsimp only [List.getElem_toArray, List.getElem_cons_zero, List.getElem_cons_succ]
  simp only [Act.put, List.setIfInBounds_toArray, List.set_cons_zero, List.set_cons_succ]
  refine wpAnyH_ready (rs := [14]) (by kernel_rfl) (by simp) ?_
  refine AllReadyH.cons rfl (fun K hK => ?_) AllReadyH.nil
  rw [if_pos (by rfl)]
  dsimp only [List.getElem_toArray, List.getElem_cons_zero, List.getElem_cons_succ]
  go_simp
  refine HR2.mono ?_
  rintro e w4 ⟨rfl, HE, k0, k1, k2⟩
  refine hK.out _ _ ⟨k0, k1, k2⟩ (fun _ => ?_)
  clear hK K
  try simp only [Act.put, List.setIfInBounds_toArray, List.set_cons_zero, List.set_cons_succ]
  refine wpAnyH_done (by kernel_rfl) ?_ _
  have HEH : Hid _ := HE
  clear HE k0 k1 k2
  go_wp2
  go_ret
  exact ⟨rfl, HEH.out⟩

end Go.Proofs.YtckmppkdpnhodaaGreatDoor
