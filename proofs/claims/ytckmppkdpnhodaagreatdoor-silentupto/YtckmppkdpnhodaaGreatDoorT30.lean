/-
  wire.Read, where the frame came whole.
-/
import Derived.Test.YtckmppkdpnhodaaGreatDoorT29
import Derived.Test.YtckmppkdpnhodaaGreatDoorT26
import Derived.Test.YtckmppkdpnhodaaGreatDoorT05
import Derived.Deep.RegionLaw
namespace Go.Proofs.YtckmppkdpnhodaaGreatDoor
set_option linter.unusedVariables false
set_option linter.unusedSimpArgs false
open Go.RowKit Go.Proofs

attribute [local go_sem ↓] Go.wp_at_zero Go.wp_at_succ

theorem Rd.kept {w w' : World} {q z : Nat} {rest : List UInt8} (h : Rd w q z rest) {S : List (Option Nat)} (hu : Upd S w w') (hq : some q ∉ S) (hz : some z ∉ S) : Rd w' q z rest := by
  obtain ⟨off, cap, h1, h2, h3, h4, h5⟩ := h
  exact ⟨off, cap, (hu.block q (Array.getElem?_eq_some_iff.1 h1).1 hq).trans h1, h2, h3, h4, fun i x hx => hu.cell (h5 i x hx) hz⟩

theorem flat_ge (es : List En) : es.length ≤ (es.flatMap entB).length := by
  induction es with
  | nil => exact Nat.le_refl _
  | cons x l ih => rw [List.flatMap_cons, List.length_append, List.length_cons]; have := entB_pos x; omega

set_option maxRecDepth 100000 in
set_option maxHeartbeats 8000000 in
theorem readG_ok (z off cap : Nat) (f : List UInt8) (hcap : f.length ≤ cap) (hm : cap ≤ 9223372036854775807) (w : World) (hb : BytesAt w (.slice (some ⟨z, off, none⟩) f.length cap) f) (hzw : z < w.heap.size) (hR : RemAt w) (hG : 1 < w.heap.size) (hv : VerbsAt w) (hok : okB f = true) (a b h : Nat) (ha : a < 5) (hb5 : b < 5) (hh : h < 72057594037927936) (es : List En) (hbody : bodyB f = headB a b h ++ es.flatMap entB)
    (hes : ∀ x ∈ es, x.org = a ∧ x.ah.lt 72057594037927936 ∧ x.seq = x.ah.get x.org + 1 ∧ readC (textOf x.c) = some x.c) :
    Calls Tryz.prog 59 #[.slice (some ⟨z, off, none⟩) f.length cap] w fun e w' => ∃ ev, e = .returned (.tuple #[.agg #[.int .i64 (a : Int), .int .i64 (b : Int), .int .i64 (h : Int), ev], .bool true]) ∧ w'.ownsRow w.heap.size 122 10 ev es.length (enRow es) ∧ Below w.heap.size w w' := by
  obtain ⟨i3, hi3, hy0, hy1, hy2⟩ := info_parts Tryz.info_entry
  have hl200 := ((okB_iff f).1 hok).2.1
  have hl5 := ((okB_iff f).1 hok).1
  have hes2 : es.length ≤ 200 := by
    have h1 := flat_ge es
    have h2 := bodyB_len hl5
    rw [hbody, List.length_append] at h2
    omega
  go_enter Tryz.func59, Tryz.ntmps59
  go_upto_region 1 with fail
  obtain ⟨wa, hwa⟩ : ∃ wa, w.alloc (.cells #[.int .i64 0, .int .i64 0, .int .i64 0, .slice none 0 0] 140) = wa := ⟨_, rfl⟩
  have hea : wa.heap[w.heap.size]? = some (.cells #[.int .i64 0, .int .i64 0, .int .i64 0, .slice none 0 0] 140 (0, 0)) := by rw [← hwa]; exact heap_alloc_new w _
  have HBA : Hid (Below w.heap.size w wa) := by show Below _ _ _; rw [← hwa]; exact (Below.refl _ w).alloc (Nat.le_refl _) _
  have hsa : wa.heap.size = w.heap.size + 1 := by rw [← hwa]; simp
  rw [hwa]
  clear hwa
  have HU : Hid (Calls Tryz.prog 105 #[.slice (some ⟨z, off, none⟩) f.length cap] wa fun e w' => ∃ o c, e = .returned (.tuple #[.slice (some ⟨z, o, none⟩) (bodyB f).length c, .bool true]) ∧ (bodyB f).length ≤ c ∧ BytesAt w' (.slice (some ⟨z, o, none⟩) (bodyB f).length c) (bodyB f) ∧ c ≤ 9223372036854775807 ∧ w'.heap[w.heap.size]? = some (.cells #[.int .i64 0, .int .i64 0, .int .i64 0, .slice none 0 0] 140 (0, 0)) ∧ Below w.heap.size w w') := by
    refine (unsealG (some ⟨z, off, none⟩) cap f hcap (by omega) hm wa ?_ (fun i hi => (HBA.out.cell (p := ⟨1, i, none⟩) hG).trans (hR i hi)) (by omega)).mono ?_
    · obtain ⟨p', c', h1, h2⟩ := hb
      exact ⟨p', c', h1, fun i x hx => by obtain ⟨b', o', h3, h4⟩ := h2 i x hx; exact ⟨b', o', h3, cell_below HBA.out h4⟩⟩
    · rintro e w' ⟨v, h1, h2, h3⟩
      rw [hok] at h1
      obtain ⟨⟨c, hvc, hcl, hcc⟩, hby⟩ := h2 hok
      have hadd : (⟨z, off, none⟩ : Addr).add 1 = ⟨z, off + 1, none⟩ := by unfold Addr.add; split <;> simp_all
      rw [Option.map_some, hadd] at hvc
      rw [hvc] at h1 hby
      refine ⟨off + 1, c, h1, hcl, ?_, by omega, by rw [h3.block _ (by omega)]; exact hea, HBA.out.trans (h3.mono (by omega))⟩
      obtain ⟨p', c', g1, g2⟩ := hby
      exact ⟨p', c', g1, fun i x hx => by obtain ⟨b', o', g3, g4⟩ := g2 i x hx; exact ⟨b', o', g3, cell_below h3 g4⟩⟩
  have HBO : Hid (bodyB f = headB a b h ++ es.flatMap entB) := hbody
  clear hb hR hea hbody
  go_upto_region 4 with (go_at_call 105; refine HU.out.mono ?_; rintro e w2 ⟨o, c, rfl, hc1, hbt, hc2, hh4, hw2⟩; have HW2 : Hid (Below w.heap.size w w2 ∧ BytesAt w2 (.slice (some ⟨z, o, none⟩) (bodyB f).length c) (bodyB f) ∧ w2.heap[w.heap.size]? = some (.cells #[.int .i64 0, .int .i64 0, .int .i64 0, .slice none 0 0] 140 (0, 0))) := ⟨hw2, hbt, hh4⟩; clear hw2 hbt hh4)
  go_upto_region 5 with fail
  have hs2 := HW2.out.1.size
  have hs2b : w.heap.size < w2.heap.size := (Array.getElem?_eq_some_iff.1 HW2.out.2.2).1
  obtain ⟨w3, hw3⟩ : ∃ w3, w2.alloc (.cells #[.slice (some ⟨z, o, none⟩) (bodyB f).length c, .bool false] 204) = w3 := ⟨_, rfl⟩
  have hb3 : Below w2.heap.size w2 w3 := by rw [← hw3]; exact (Below.refl _ w2).alloc (Nat.le_refl _) _
  have hs3 : w3.heap.size = w2.heap.size + 1 := by rw [← hw3]; simp
  have hrd : Rd w3 w2.heap.size z (headB a b h ++ es.flatMap entB) := by
    rw [← HBO.out]
    refine ⟨o, c, by rw [← hw3]; exact heap_alloc_new w2 _, hc1, hc2, by omega, fun i x hx => ?_⟩
    obtain ⟨p', c', g1, g2⟩ := HW2.out.2.1
    obtain ⟨b', o', g3, g4⟩ := g2 i x hx
    rw [g3] at g1
    simp only [Value.slice.injEq, Option.some.injEq, Addr.mk.injEq, and_true] at g1
    obtain ⟨⟨rfl, rfl⟩, -⟩ := g1
    exact cell_below hb3 g4
  rw [hw3]
  clear hw3
  have HH : Hid (Calls Tryz.prog 106 #[.pointer (some ⟨w2.heap.size, 0, none⟩)] w3 fun e w' => e = .returned (.agg #[.int .i64 (a : Int), .int .i64 (b : Int), .int .i64 (h : Int), .slice none 0 0]) ∧ Rd w' w2.heap.size z (es.flatMap entB) ∧ Upd [some w2.heap.size] w3 w') := rheadG w3 w2.heap.size z a b h (by omega) ha hb5 hh _ hrd
  have HB3 : Hid (Below w2.heap.size w2 w3) := hb3
  clear hrd hb3
  go_upto_region 6 with (go_at_call 106; refine HH.out.mono ?_; rintro e w4 ⟨rfl, hw4⟩; have HW4 : Hid (Rd w4 w2.heap.size z (es.flatMap entB) ∧ Upd [some w2.heap.size] w3 w4) := hw4; clear hw4)
  obtain ⟨w5, hw5⟩ : ∃ w5, w4.alloc (.cells #[.int .i64 (a : Int), .int .i64 (b : Int), .int .i64 (h : Int), .slice none 0 0] 140) = w5 := ⟨_, rfl⟩
  have hb5' : Below w4.heap.size w4 w5 := by rw [← hw5]; exact (Below.refl _ w4).alloc (Nat.le_refl _) _
  have hs5 : w5.heap.size = w4.heap.size + 1 := by rw [← hw5]; simp
  have hs4 := HW4.out.2.size
  have HL5 : Hid (w5.heap[w4.heap.size]? = some (.cells #[.int .i64 (a : Int), .int .i64 (b : Int), .int .i64 (h : Int), .slice none 0 0] 140 (0, 0))) := by show _ = _; rw [← hw5]; exact heap_alloc_new w4 _
  have HR5 : Hid (Rd w5 w2.heap.size z (es.flatMap entB)) := HW4.out.1.below hb5'
  have HU5 : Hid (Upd [some w2.heap.size] w2 w5) := ((Upd.of_below (S := [some w2.heap.size]) HB3.out).trans HW4.out.2 fun i hi => .inl hi).below hb5'
  rw [hw5]
  clear hw5 hb5'
  go_loopw [22] (fun _ wr => ∃ (j : Nat) (ev : Value), j ≤ es.length ∧ Hid (wr.heap[w4.heap.size]? = some (.cells #[.int .i64 (a : Int), .int .i64 (b : Int), .int .i64 (h : Int), ev] 140 (0, 0)) ∧ wr.ownsRow (w4.heap.size + 1) 122 10 ev j (enRow (es.take j)) ∧ Rd wr w2.heap.size z ((es.drop j).flatMap entB) ∧ Upd [] w2 wr)) (fun _ wr => match wr.cell? ⟨w2.heap.size, 0, none⟩ with | some (.slice _ n _) => n | _ => 0)
  case atStart => exact ⟨0, .slice none 0 0, Nat.zero_le _, HL5.out, ⟨rfl, .inl ⟨rfl, rfl⟩⟩, HR5.out, ⟨HU5.out.os, HU5.out.tape, HU5.out.output, HU5.out.size, fun k hk _ => HU5.out.block k hk (by simp; omega)⟩⟩
  case round =>
    obtain ⟨j, ev, hj, HI⟩ := hrel
    obtain ⟨h1, h2, ⟨ro, rc, r1, r2, r3, r4, r5⟩, h4⟩ := HI.out
    have c0 : wr.cell? ⟨w2.heap.size, 0, none⟩ = some (.slice (some ⟨z, ro, none⟩) ((es.drop j).flatMap entB).length rc) := by rw [cell_of_heap r1]; rfl
    have c1 : wr.cell? ⟨w2.heap.size, 1, none⟩ = some (.bool false) := by rw [cell_of_heap r1]; rfl
    by_cases hlt : j < es.length
    · obtain ⟨pe, ce, hev⟩ := own_form h2
      subst hev
      have hx := hes es[j] (List.getElem_mem hlt)
      have HD : Hid (es.drop j = es[j] :: es.drop (j + 1)) := List.drop_eq_getElem_cons hlt
      have HT : Hid (enRow (es.take (j + 1)) = enRow (es.take j) ++ [.int .i64 (es[j].org : Int), .int .i64 (es[j].seq : Int), .int .i64 (es[j].ah.a : Int), .int .i64 (es[j].ah.b : Int), .int .i64 (es[j].ah.c : Int), .int .i64 (es[j].ah.d : Int), .int .i64 (es[j].ah.e : Int), .int .i64 (es[j].c.k.num : Int), .string es[j].c.word, .int .i64 (es[j].c.count : Int)]) := by show _ = _; rw [take_snoc' es j hlt]; exact enRow_snoc _ _
      have h9 : 0 < ((es.drop j).flatMap entB).length := by rw [HD.out, List.flatMap_cons, List.length_append]; have := entB_pos es[j]; omega
      have hpos : (0 : Int) < (((es.drop j).flatMap entB).length : Int) := by omega
      have hw4r : w4.heap.size < wr.heap.size := (Array.getElem?_eq_some_iff.1 h1).1
      have hvr : VerbsAt wr := fun k => h4.cell (HW2.out.1.cell (p := ⟨0, k.num, none⟩) (by show 0 < w.heap.size; omega) ▸ hv k) (by simp)
      have HEN : Hid (Calls Tryz.prog 107 #[.pointer (some ⟨w2.heap.size, 0, none⟩), .int .i64 (a : Int)] wr.drew fun e w' => e = .returned es[j].val ∧ w'.cell? ⟨w4.heap.size, 3, none⟩ = some (.slice pe j ce) ∧ w'.frozen? ⟨w4.heap.size, 3, none⟩ = false ∧ w'.cell? ⟨w4.heap.size, 0, none⟩ = some (.int .i64 (a : Int)) ∧ w'.ownsRow (w4.heap.size + 1) 122 10 (.slice pe j ce) j (enRow (es.take j)) ∧ Rd w' w2.heap.size z ((es.drop (j + 1)).flatMap entB) ∧ Upd [some w2.heap.size] wr w') := by
        have hrd : Rd wr w2.heap.size z (entB es[j] ++ (es.drop (j + 1)).flatMap entB) := by have := (⟨ro, rc, r1, r2, r3, r4, r5⟩ : Rd wr w2.heap.size z ((es.drop j).flatMap entB)); rwa [HD.out, List.flatMap_cons] at this
        have := entryG wr.drew w2.heap.size z es[j] (by show z < wr.heap.size; omega) (by omega) hx.2.1 hx.2.2.1 hx.2.2.2 hvr _ hrd
        rw [hx.1] at this
        refine this.mono ?_
        rintro e w' ⟨e1, e2, e3⟩
        have e3' : Upd [some w2.heap.size] wr w' := ⟨e3.os, e3.tape, e3.output, e3.size, e3.block⟩
        have hl : w'.heap[w4.heap.size]? = some (.cells #[.int .i64 (a : Int), .int .i64 (b : Int), .int .i64 (h : Int), .slice pe j ce] 140 (0, 0)) := by rw [e3'.block _ hw4r (by simp; omega)]; exact h1
        exact ⟨e1, by rw [cell_of_heap hl]; rfl, frozen_of_heap hl 3, by rw [cell_of_heap hl]; rfl, e3'.owns h2 fun k hk hmem => by have := own_ge h2 hk; simp at hmem; omega, e2, e3'⟩
      unfold En.val at HEN
      have l0 : wr.cell? ⟨w4.heap.size, 0, none⟩ = some (.int .i64 (a : Int)) := by rw [cell_of_heap h1]; rfl
      have l3 : wr.cell? ⟨w4.heap.size, 3, none⟩ = some (.slice pe j ce) := by rw [cell_of_heap h1]; rfl
      have hne : (Value.slice pe j ce).ownBlock ≠ some w4.heap.size := fun e => by have := own_ge h2 e; omega
      have H1 : Hid (wr.heap[w4.heap.size]? = some (.cells #[.int .i64 (a : Int), .int .i64 (b : Int), .int .i64 (h : Int), .slice pe j ce] 140 (0, 0)) ∧ Upd [] w2 wr) := ⟨h1, h4⟩
      have HPE : Hid (∀ k, (Value.slice pe j ce).ownBlock = some k → w4.heap.size + 1 ≤ k) := fun k hk => own_ge h2 hk
      clear h1 h2 h4 r1 r2 r5 h9 hx hvr HI
      generalize es[j] = x at *
      have hje : j ≤ 200 := by omega
      have HDL : Hid (((es.drop (j + 1)).flatMap entB).length < ((es.drop j).flatMap entB).length) := by show _ < _; rw [HD.out, List.flatMap_cons, List.length_append]; have := entB_pos x; omega
      generalize ((es.drop j).flatMap entB).length = rl at *
      have HC0 : Hid (wr.cell? ⟨w2.heap.size, 0, none⟩ = some (.slice (some ⟨z, ro, none⟩) rl rc)) := c0
      have hzs : z < w2.heap.size := by omega
      have HEND : Hid (∀ (w6 w7 : World) (g7 cap7 : Nat), (w6.ownsRow (w4.heap.size + 1) 122 10 (.slice pe j ce) j (enRow (es.take j)) ∧ Rd w6 w2.heap.size z ((es.drop (j + 1)).flatMap entB) ∧ Upd [some w2.heap.size] wr w6) → w7.ownsRow (w4.heap.size + 1) 122 10 (.slice (some ⟨g7, 0, none⟩) (j + 1) cap7) (j + 1) (enRow (es.take j) ++ [.int .i64 (x.org : Int), .int .i64 (x.seq : Int), .int .i64 (x.ah.a : Int), .int .i64 (x.ah.b : Int), .int .i64 (x.ah.c : Int), .int .i64 (x.ah.d : Int), .int .i64 (x.ah.e : Int), .int .i64 (x.c.k.num : Int), .string x.c.word, .int .i64 (x.c.count : Int)]) →
          (w6.alloc (.cells #[.int .i64 (x.org : Int), .int .i64 (x.seq : Int), .int .i64 (x.ah.a : Int), .int .i64 (x.ah.b : Int), .int .i64 (x.ah.c : Int), .int .i64 (x.ah.d : Int), .int .i64 (x.ah.e : Int), .int .i64 (x.c.k.num : Int), .string x.c.word, .int .i64 (x.c.count : Int)] 122)).grownBy w7 (Value.slice pe j ce).ownBlock →
          (j + 1 ≤ es.length ∧ Hid ((w7.setCell ⟨w4.heap.size, 3, none⟩ (.slice (some ⟨g7, 0, none⟩) (j + 1) cap7)).heap[w4.heap.size]? = some (.cells #[.int .i64 (a : Int), .int .i64 (b : Int), .int .i64 (h : Int), .slice (some ⟨g7, 0, none⟩) (j + 1) cap7] 140 (0, 0)) ∧ (w7.setCell ⟨w4.heap.size, 3, none⟩ (.slice (some ⟨g7, 0, none⟩) (j + 1) cap7)).ownsRow (w4.heap.size + 1) 122 10 (.slice (some ⟨g7, 0, none⟩) (j + 1) cap7) (j + 1) (enRow (es.take (j + 1))) ∧ Rd (w7.setCell ⟨w4.heap.size, 3, none⟩ (.slice (some ⟨g7, 0, none⟩) (j + 1) cap7)) w2.heap.size z ((es.drop (j + 1)).flatMap entB) ∧ Upd [] w2 (w7.setCell ⟨w4.heap.size, 3, none⟩ (.slice (some ⟨g7, 0, none⟩) (j + 1) cap7)))) ∧
            (match (w7.setCell ⟨w4.heap.size, 3, none⟩ (.slice (some ⟨g7, 0, none⟩) (j + 1) cap7)).cell? ⟨w2.heap.size, 0, none⟩ with | some (.slice _ n _) => n | _ => 0) < rl) := fun w6 w7 g7 cap7 q6 q7 g => by
        obtain ⟨a1, a2, a3⟩ := q6
        have hs6 := a3.size
        have u7 : Upd [(Value.slice pe j ce).ownBlock] w6 w7 := ((Upd.refl _ w6).alloc _).grown g fun k hk => .inl (by simp [hk])
        have hg7 := own_ge q7 (b := g7) rfl
        have l7 : w7.heap[w4.heap.size]? = some (.cells #[.int .i64 (a : Int), .int .i64 (b : Int), .int .i64 (h : Int), .slice pe j ce] 140 (0, 0)) := by
          rw [u7.block _ (by omega) (fun hm => by simp only [List.mem_cons, List.not_mem_nil, or_false] at hm; have := HPE.out _ hm.symm; omega), a3.block _ hw4r (by simp; omega)]
          exact H1.out.1
        have r7 : Rd (w7.setCell ⟨w4.heap.size, 3, none⟩ (.slice (some ⟨g7, 0, none⟩) (j + 1) cap7)) w2.heap.size z ((es.drop (j + 1)).flatMap entB) := by
          have r0 := a2.kept u7 (fun hm => by simp only [List.mem_cons, List.not_mem_nil, or_false] at hm; have := HPE.out _ hm.symm; omega) (fun hm => by simp only [List.mem_cons, List.not_mem_nil, or_false] at hm; have := HPE.out _ hm.symm; omega)
          exact r0.kept (S := [some w4.heap.size]) ((Upd.refl _ w7).setCell (.inl (by simp)) _) (by simp; omega) (by simp; omega)
        have uf : Upd [] w2 (w7.setCell ⟨w4.heap.size, 3, none⟩ (.slice (some ⟨g7, 0, none⟩) (j + 1) cap7)) := by
          have v1 : Upd [] w2 w6 := H1.out.2.trans a3 fun i hi => .inr (by simp at hi; omega)
          have v2 : Upd [] w2 w7 := v1.trans u7 fun i hi => .inr (by simp only [List.mem_cons, List.not_mem_nil, or_false] at hi; have := HPE.out _ hi.symm; omega)
          exact v2.setCell (.inr (by show w2.heap.size ≤ w4.heap.size; omega)) _
        refine ⟨⟨by omega, ?_, ?_, r7, uf⟩, ?_⟩
        · rw [heap_setCell_same l7]; rfl
        · rw [HT.out]; exact owns_setCell_other q7 (fun b hb => by cases hb; show g7 ≠ w4.heap.size; omega) _
        · obtain ⟨off7, cp7, h17, -⟩ := r7
          rw [cell_of_heap h17]
          exact HDL.out
      go_upto_region 7 with fail
      have hxo := x.ho
      go_region_law
        (first
          | (rw [if_pos (by rfl)]; (try dsimp only [List.getElem_toArray, List.getElem_cons_zero, List.getElem_cons_succ]); go_simp; refine HEN.out.mono ?_; rintro e w6 ⟨rfl, k3, kf, k0, ho6, hr6⟩; have HO6 : Hid (w6.ownsRow (w4.heap.size + 1) 122 10 (.slice pe j ce) j (enRow (es.take j)) ∧ Rd w6 w2.heap.size z ((es.drop (j + 1)).flatMap entB) ∧ Upd [some w2.heap.size] wr w6) := ⟨ho6, hr6⟩; have hs6 := hr6.2.size; clear ho6 hr6; have ka : ∀ o, (w6.alloc o).cell? ⟨w4.heap.size, 3, none⟩ = some (.slice pe j ce) := fun o => (World.cell?_of_block (a := ⟨w4.heap.size, 3, none⟩) (Below.heap_alloc w6 o w4.heap.size (by omega))).trans k3)
          | (refine step_append_lies _ (by rfl) _ _ _ (by rfl) (w4.heap.size + 1) 122 i3 _ 10 88 Tryz.underlying101 hi3 hy0 hy1 hy2 rfl (by omega) (.slice pe j ce) j (enRow (es.take j)) (by rfl) ((Upd.alloc (Upd.refl [] w6) _).owns HO6.out.1 (by simp))
              ⟨w6.heap.size, 0, none⟩ 1 1 [.int .i64 (x.org : Int), .int .i64 (x.seq : Int), .int .i64 (x.ah.a : Int), .int .i64 (x.ah.b : Int), .int .i64 (x.ah.c : Int), .int .i64 (x.ah.d : Int), .int .i64 (x.ah.e : Int), .int .i64 (x.c.k.num : Int), .string x.c.word, .int .i64 (x.c.count : Int)] (by rfl) (by rfl) (World.news_of_block (heap_alloc_new w6 _)) (by simp [Value.oneCell'])
              (by omega) (by unfold maxLen; omega) (by omega) (by simp; omega) (w6.heap.size + 1) (by simp) ?_; intro g7 cap7 w7 ho7 hg7 hat7 hlt7; have s3 : w7.cell? ⟨w4.heap.size, 3, none⟩ = some (.slice pe j ce) := (hg7.cell_far ⟨w4.heap.size, 3, none⟩ (by first | (simp; done) | (simp; omega)) (Ne.symm hne)).trans ((World.cell?_of_block (a := ⟨w4.heap.size, 3, none⟩) (Below.heap_alloc w6 _ w4.heap.size (by omega))).trans k3); have sf : w7.frozen? ⟨w4.heap.size, 3, none⟩ = false := (hg7.frozen_far ⟨w4.heap.size, 3, none⟩ (by first | (simp; done) | (simp; omega)) (Ne.symm hne)).trans ((World.frozen?_of_block (a := ⟨w4.heap.size, 3, none⟩) (Below.heap_alloc w6 _ w4.heap.size (by omega))).trans kf)))
      all_goals obtain ⟨R, M⟩ := HEND.out _ _ _ _ HO6.out ho7 hg7
      all_goals go_wp2
      all_goals
        go_roundw
        case rel => exact ⟨j + 1, _, R⟩
        case measure => (try rw [c0]); exact M
    · obtain rfl : j = es.length := by omega
      have hd0 : ((es.drop es.length).flatMap entB).length = 0 := by simp
      rw [hd0] at c0
      rw [List.take_length] at h2
      have k0 : wr.heap[w.heap.size]? = some (.cells #[.int .i64 0, .int .i64 0, .int .i64 0, .slice none 0 0] 140 (0, 0)) := by rw [h4.block _ hs2b (by simp)]; exact HW2.out.2.2
      obtain ⟨pv, cv, hev⟩ := own_form h2
      subst hev
      have l0 : wr.cell? ⟨w4.heap.size, 0, none⟩ = some (.int .i64 (a : Int)) := by rw [cell_of_heap h1]; rfl
      have l1 : wr.cell? ⟨w4.heap.size, 1, none⟩ = some (.int .i64 (b : Int)) := by rw [cell_of_heap h1]; rfl
      have l2 : wr.cell? ⟨w4.heap.size, 2, none⟩ = some (.int .i64 (h : Int)) := by rw [cell_of_heap h1]; rfl
      have l3 : wr.cell? ⟨w4.heap.size, 3, none⟩ = some (.slice pv es.length cv) := by rw [cell_of_heap h1]; rfl
      have z0 : wr.cell? ⟨w.heap.size, 0, none⟩ = some (.int .i64 0) := by rw [cell_of_heap k0]; rfl
      have z1 : wr.cell? ⟨w.heap.size, 1, none⟩ = some (.int .i64 0) := by rw [cell_of_heap k0]; rfl
      have z2 : wr.cell? ⟨w.heap.size, 2, none⟩ = some (.int .i64 0) := by rw [cell_of_heap k0]; rfl
      have z3 : wr.cell? ⟨w.heap.size, 3, none⟩ = some (.slice none 0 0) := by rw [cell_of_heap k0]; rfl
      have zf := frozen_of_heap k0
      have HO : Hid (wr.ownsRow (w4.heap.size + 1) 122 10 (.slice pv es.length cv) es.length (enRow es)) := h2
      have HB : Hid (Below w.heap.size w wr) := HW2.out.1.trans ⟨h4.os, h4.tape, h4.output, h4.size, fun k hk => h4.block k (by omega) (by simp)⟩
      clear h1 h2 h4 r1 r5 k0
      go_wp2
      have hU4 : ∀ v0 v1 v2 v3, Upd [some w.heap.size] wr ((((wr.setCell ⟨w.heap.size, 0, none⟩ v0).setCell ⟨w.heap.size, 1, none⟩ v1).setCell ⟨w.heap.size, 2, none⟩ v2).setCell ⟨w.heap.size, 3, none⟩ v3) := fun v0 v1 v2 v3 => ((((Upd.refl _ _).setCell (.inl (by simp)) _).setCell (.inl (by simp)) _).setCell (.inl (by simp)) _).setCell (.inl (by simp)) _
      exact bodyPost_ret (v := .tuple #[.agg #[.int .i64 (a : Int), .int .i64 (b : Int), .int .i64 (h : Int), .slice pv es.length cv], .bool true]) (by simp [results, Tryz.results59, go_sem, z0, z1, z2, z3]) rfl ⟨_, rfl, owns_base ((hU4 _ _ _ _).owns HO.out fun k hk hmem => by have := own_ge HO.out hk; simp at hmem; omega) (by omega), (((HB.out.setCell (by simp) _).setCell (by simp) _).setCell (by simp) _).setCell (by simp) _⟩

end Go.Proofs.YtckmppkdpnhodaaGreatDoor
