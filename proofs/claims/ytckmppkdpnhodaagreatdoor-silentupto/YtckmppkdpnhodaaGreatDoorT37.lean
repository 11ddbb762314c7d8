/-
  wire.Read over whatever bytes.
-/
import Derived.Test.YtckmppkdpnhodaaGreatDoorT36
import Derived.Test.YtckmppkdpnhodaaGreatDoorT30
namespace Go.Proofs.YtckmppkdpnhodaaGreatDoor
set_option linter.unusedVariables false
set_option linter.unusedSimpArgs false
open Go.RowKit Go.Proofs

attribute [local go_sem ↓] Go.wp_at_zero Go.wp_at_succ

/-- Entries that may come out of whatever bytes. -/
def EnAny (a : Nat) (es : List En) : Prop := ∀ x ∈ es, x.org = a ∧ x.ah.lt 72057594037927936 ∧ x.seq = x.ah.get x.org + 1 ∧ readC (textOf x.c) = some x.c

/-- What Read gives, of whatever bytes. -/
def ReadTo (w : World) (e : Ending) (w' : World) : Prop :=
  e = .returned (.tuple #[.agg #[.int .i64 0, .int .i64 0, .int .i64 0, .slice none 0 0], .bool false]) ∨ ∃ (a b h : Nat) (ev : Value) (es : List En), e = .returned (.tuple #[.agg #[.int .i64 (a : Int), .int .i64 (b : Int), .int .i64 (h : Int), ev], .bool true]) ∧ a < 5 ∧ b < 5 ∧ h < 72057594037927936 ∧ es.length ≤ 201 ∧ EnAny a es ∧ w'.ownsRow w.heap.size 122 10 ev es.length (enRow es)

/-- The length that the reader has ahead, and one more while it is not bad. -/
def rdLeft (w : World) (q : Nat) : Nat := (match w.cell? ⟨q, 0, none⟩ with | some (.slice _ n _) => n | _ => 0) + (match w.cell? ⟨q, 1, none⟩ with | some (.bool true) => 0 | _ => 1)

theorem rdLeft_of {w : World} {q z : Nat} {r : List UInt8} {b : Bool} (h : Rb w q z r b) : rdLeft w q = r.length + if b then 0 else 1 := by
  obtain ⟨off, cap, h1, -⟩ := h
  unfold rdLeft
  rw [cell_of_heap h1, cell_of_heap h1]
  cases b <;> rfl

/-- What holds at each of Read's rounds. -/
structure RdI (w w2 w4 : World) (z a b h j : Nat) (ev : Value) (xs : List Value) (r : List UInt8) (bd : Bool) (wr : World) : Prop where
  lt : wr.heap[w4.heap.size]? = some (.cells #[.int .i64 (a : Int), .int .i64 (b : Int), .int .i64 (h : Int), ev] 140 (0, 0))
  row : wr.ownsRow (w4.heap.size + 1) 122 10 ev j xs
  rb : Rb wr w2.heap.size z r bd
  upd : Upd [] w2 wr
  le : j ≤ 201
  sum : bd = false → j + r.length ≤ 200
  en : bd = false → ∃ es, xs = enRow es ∧ es.length = j ∧ EnAny a es

theorem RdI.next {w w2 w4 : World} {z a b h j : Nat} {pe : Option Addr} {ce : Nat} {xs : List Value} {r : List UInt8} {wr : World} (H : RdI w w2 w4 z a b h j (.slice pe j ce) xs r false wr) (hz : z < w2.heap.size) (h24 : w2.heap.size < w4.heap.size) {seq : Nat} {ah : Rc} {kn ct : Nat} {wd : ByteArray} {r' : List UInt8} {b' : Bool} {w6 w7 : World} {g7 cap7 : Nat}
    (hen : b' = false → ∃ x : En, x.org = a ∧ x.seq = seq ∧ x.ah = ah ∧ x.c.k.num = kn ∧ x.c.word = wd ∧ x.c.count = ct ∧ x.ah.lt 72057594037927936 ∧ x.seq = x.ah.get x.org + 1 ∧ readC (textOf x.c) = some x.c)
    (hrb : Rb w6 w2.heap.size z r' b') (hu : Upd [some w2.heap.size] wr w6) (hle : r'.length ≤ r.length) (hlt : b' = false → r'.length < r.length) (hr0 : 0 < r.length)
    (ho : w7.ownsRow (w4.heap.size + 1) 122 10 (.slice (some ⟨g7, 0, none⟩) (j + 1) cap7) (j + 1) (xs ++ [.int .i64 (a : Int), .int .i64 (seq : Int), .int .i64 (ah.a : Int), .int .i64 (ah.b : Int), .int .i64 (ah.c : Int), .int .i64 (ah.d : Int), .int .i64 (ah.e : Int), .int .i64 (kn : Int), .string wd, .int .i64 (ct : Int)]))
    (hg : (w6.alloc (.cells #[.int .i64 (a : Int), .int .i64 (seq : Int), .int .i64 (ah.a : Int), .int .i64 (ah.b : Int), .int .i64 (ah.c : Int), .int .i64 (ah.d : Int), .int .i64 (ah.e : Int), .int .i64 (kn : Int), .string wd, .int .i64 (ct : Int)] 122)).grownBy w7 (Value.slice pe j ce).ownBlock) :
    RdI w w2 w4 z a b h (j + 1) (.slice (some ⟨g7, 0, none⟩) (j + 1) cap7) (xs ++ [.int .i64 (a : Int), .int .i64 (seq : Int), .int .i64 (ah.a : Int), .int .i64 (ah.b : Int), .int .i64 (ah.c : Int), .int .i64 (ah.d : Int), .int .i64 (ah.e : Int), .int .i64 (kn : Int), .string wd, .int .i64 (ct : Int)]) r' b' (w7.setCell ⟨w4.heap.size, 3, none⟩ (.slice (some ⟨g7, 0, none⟩) (j + 1) cap7)) ∧ rdLeft (w7.setCell ⟨w4.heap.size, 3, none⟩ (.slice (some ⟨g7, 0, none⟩) (j + 1) cap7)) w2.heap.size < rdLeft wr w2.heap.size := by
  have hs6 := hu.size
  have hw4r : w4.heap.size < wr.heap.size := (Array.getElem?_eq_some_iff.1 H.lt).1
  have hpe : ∀ k, (Value.slice pe j ce).ownBlock = some k → w4.heap.size + 1 ≤ k := fun k hk => own_ge H.row hk
  have u7 : Upd [(Value.slice pe j ce).ownBlock] w6 w7 := ((Upd.refl _ w6).alloc _).grown hg fun k hk => .inl (by simp [hk])
  have hg7 := own_ge ho (b := g7) rfl
  have nm : ∀ k, k ≤ w4.heap.size → some k ∉ [(Value.slice pe j ce).ownBlock] := fun k hk hm => by
    simp only [List.mem_cons, List.not_mem_nil, or_false] at hm
    have := hpe _ hm.symm
    omega
  have l7 : w7.heap[w4.heap.size]? = some (.cells #[.int .i64 (a : Int), .int .i64 (b : Int), .int .i64 (h : Int), .slice pe j ce] 140 (0, 0)) := by
    rw [u7.block _ (by omega) (nm _ (Nat.le_refl _)), hu.block _ hw4r (by simp; omega)]
    exact H.lt
  have us : Upd [some w4.heap.size] w7 (w7.setCell ⟨w4.heap.size, 3, none⟩ (.slice (some ⟨g7, 0, none⟩) (j + 1) cap7)) := (Upd.refl _ w7).setCell (.inl (by simp)) _
  have r7 := (hrb.upd u7 (nm _ (by omega)) (nm _ (by omega))).upd us (by simp; omega) (by simp; omega)
  refine ⟨⟨by rw [heap_setCell_same l7]; rfl, owns_setCell_other ho (fun b hb => by cases hb; show g7 ≠ w4.heap.size; omega) _, r7, ?_, ?_, fun e => ?_, fun e => ?_⟩, ?_⟩
  · have v1 : Upd [] w2 w6 := H.upd.trans hu fun i hi => .inr (by simp at hi; omega)
    have v2 : Upd [] w2 w7 := v1.trans u7 fun i hi => .inr (by simp only [List.mem_cons, List.not_mem_nil, or_false] at hi; have := hpe _ hi.symm; omega)
    exact v2.setCell (.inr (by show w2.heap.size ≤ w4.heap.size; omega)) _
  · have := H.sum rfl; omega
  · have := H.sum rfl; have := hlt e; omega
  · obtain ⟨es, e1, e2, e3⟩ := H.en rfl
    obtain ⟨x, x1, x2, x3, x4, x5, x6, x7, x8, x9⟩ := hen e
    refine ⟨es ++ [x], ?_, by simp [e2], fun y hy => ?_⟩
    · rw [e1, enRow_snoc]
      unfold En.cells
      rw [x1, x2, x3, x4, x5, x6]
    · rcases List.mem_append.1 hy with hy | hy
      · exact e3 y hy
      · simp at hy; subst hy; exact ⟨x1, x7, x8, x9⟩
  · rw [rdLeft_of r7, rdLeft_of H.rb]
    cases b' with
    | true => simp; omega
    | false => have := hlt rfl; simp; omega

set_option maxRecDepth 100000 in
set_option maxHeartbeats 8000000 in
theorem readX_ok (z off cap : Nat) (f : List UInt8) (hcap : f.length ≤ cap) (hm : cap ≤ 9223372036854775807) (w : World) (hb : BytesAt w (.slice (some ⟨z, off, none⟩) f.length cap) f) (hzw : z < w.heap.size) (hR : RemAt w) (hG : 1 < w.heap.size) (hv : VerbsAt w) (hok : okB f = true) :
    Calls Tryz.prog 59 #[.slice (some ⟨z, off, none⟩) f.length cap] w fun e w' => ReadTo w e w' ∧ Below w.heap.size w w' := by
  obtain ⟨i3, hi3, hy0, hy1, hy2⟩ := info_parts Tryz.info_entry
  have hl200 := ((okB_iff f).1 hok).2.1
  have hl5 := ((okB_iff f).1 hok).1
  have HBL : Hid ((bodyB f).length ≤ 200) := by show _ ≤ _; have := bodyB_len hl5; omega
  go_enter Tryz.func59, Tryz.ntmps59
  go_upto_region 1 with fail
  obtain ⟨wa, hwa⟩ : ∃ wa, w.alloc (.cells #[.int .i64 0, .int .i64 0, .int .i64 0, .slice none 0 0] 140) = wa := ⟨_, rfl⟩
  have hea : wa.heap[w.heap.size]? = some (.cells #[.int .i64 0, .int .i64 0, .int .i64 0, .slice none 0 0] 140 (0, 0)) := by rw [← hwa]; exact heap_alloc_new w _
  have HBA : Hid (Below w.heap.size w wa) := by show Below _ _ _; rw [← hwa]; exact (Below.refl _ w).alloc (Nat.le_refl _) _
  have hsa : wa.heap.size = w.heap.size + 1 := by rw [← hwa]; simp
  rw [hwa]
  clear hwa
  have HU : Hid (Calls Tryz.prog 105 #[.slice (some ⟨z, off, none⟩) f.length cap] wa fun e w' => ∃ o c, e = .returned (.tuple #[.slice (some ⟨z, o, none⟩) (bodyB f).length c, .bool true]) ∧ (bodyB f).length ≤ c ∧ BytesAt w' (.slice (some ⟨z, o, none⟩) (bodyB f).length c) (bodyB f) ∧ c ≤ 9223372036854775807 ∧ w'.heap[w.heap.size]? = some (.cells #[.int .i64 0, .int .i64 0, .int .i64 0, .slice none 0 0] 140 (0, 0)) ∧ Below w.heap.size w w') := by
    refine (unsealG (some ⟨z, off, none⟩) cap f hcap (by omega) hm wa ?_ (fun i hi => (HBA.out.cell (p := ⟨1, i, none⟩) hG).trans (hR i hi)) (by omega)).mono ?_
    · obtain ⟨p', c', h1, h2⟩ := hb
      exact ⟨p', c', h1, fun i x hx => by obtain ⟨b', o', h3, h4⟩ := h2 i x hx; exact ⟨b', o', h3, cell_below HBA.out h4⟩⟩
    · rintro e w' ⟨v, h1, h2, h3⟩
      rw [hok] at h1
      obtain ⟨⟨c, hvc, hcl, hcc⟩, hby⟩ := h2 hok
      have hadd : (⟨z, off, none⟩ : Addr).add 1 = ⟨z, off + 1, none⟩ := by unfold Addr.add; split <;> simp_all
      rw [Option.map_some, hadd] at hvc
      rw [hvc] at h1 hby
      refine ⟨off + 1, c, h1, hcl, ?_, by omega, by rw [h3.block _ (by omega)]; exact hea, HBA.out.trans (h3.mono (by omega))⟩
      obtain ⟨p', c', g1, g2⟩ := hby
      exact ⟨p', c', g1, fun i x hx => by obtain ⟨b', o', g3, g4⟩ := g2 i x hx; exact ⟨b', o', g3, cell_below h3 g4⟩⟩
  clear hb hR hea
  go_upto_region 4 with (go_at_call 105; refine HU.out.mono ?_; rintro e w2 ⟨o, c, rfl, hc1, hbt, hc2, hh4, hw2⟩; have HW2 : Hid (Below w.heap.size w w2 ∧ BytesAt w2 (.slice (some ⟨z, o, none⟩) (bodyB f).length c) (bodyB f) ∧ w2.heap[w.heap.size]? = some (.cells #[.int .i64 0, .int .i64 0, .int .i64 0, .slice none 0 0] 140 (0, 0))) := ⟨hw2, hbt, hh4⟩; clear hw2 hbt hh4)
  go_upto_region 5 with fail
  have hs2 := HW2.out.1.size
  have hs2b : w.heap.size < w2.heap.size := (Array.getElem?_eq_some_iff.1 HW2.out.2.2).1
  obtain ⟨w3, hw3⟩ : ∃ w3, w2.alloc (.cells #[.slice (some ⟨z, o, none⟩) (bodyB f).length c, .bool false] 204) = w3 := ⟨_, rfl⟩
  have hb3 : Below w2.heap.size w2 w3 := by rw [← hw3]; exact (Below.refl _ w2).alloc (Nat.le_refl _) _
  have hs3 : w3.heap.size = w2.heap.size + 1 := by rw [← hw3]; simp
  have hrd : Rb w3 w2.heap.size z (bodyB f) false := by
    refine ⟨o, c, by rw [← hw3]; exact heap_alloc_new w2 _, hc1, hc2, by omega, fun i x hx => ?_⟩
    obtain ⟨p', c', g1, g2⟩ := HW2.out.2.1
    obtain ⟨b', o', g3, g4⟩ := g2 i x hx
    rw [g3] at g1
    simp only [Value.slice.injEq, Option.some.injEq, Addr.mk.injEq, and_true] at g1
    obtain ⟨⟨rfl, rfl⟩, -⟩ := g1
    exact cell_below hb3 g4
  rw [hw3]
  clear hw3
  have HH : Hid (Calls Tryz.prog 106 #[.pointer (some ⟨w2.heap.size, 0, none⟩)] w3 fun e w' => ∃ a b h : Nat, a < 5 ∧ b < 5 ∧ h < 72057594037927936 ∧ e = .returned (.agg #[.int .i64 (a : Int), .int .i64 (b : Int), .int .i64 (h : Int), .slice none 0 0]) ∧ Hid (RbTo w3 w2.heap.size z (bodyB f) false w')) := by
    refine (rheadX w3 w2.heap.size z (by omega) _ _ hrd).mono ?_
    rintro e w' ⟨⟨a, b, h, q1, q2, q3, q4⟩, q5⟩
    exact ⟨a, b, h, q1, q2, q3, q4, q5⟩
  have HB3 : Hid (Below w2.heap.size w2 w3) := hb3
  clear hrd hb3
  go_upto_region 6 with (go_at_call 106; refine HH.out.mono ?_; rintro e w4 ⟨a, b, h, ha, hb5, hh, rfl, HW4⟩)
  obtain ⟨w5, hw5⟩ : ∃ w5, w4.alloc (.cells #[.int .i64 (a : Int), .int .i64 (b : Int), .int .i64 (h : Int), .slice none 0 0] 140) = w5 := ⟨_, rfl⟩
  have hb5' : Below w4.heap.size w4 w5 := by rw [← hw5]; exact (Below.refl _ w4).alloc (Nat.le_refl _) _
  have hs5 : w5.heap.size = w4.heap.size + 1 := by rw [← hw5]; simp
  have hs4 := HW4.out.upd1.size
  have HL5 : w5.heap[w4.heap.size]? = some (.cells #[.int .i64 (a : Int), .int .i64 (b : Int), .int .i64 (h : Int), .slice none 0 0] 140 (0, 0)) := by rw [← hw5]; exact heap_alloc_new w4 _
  obtain ⟨r0, bd0, HI0⟩ : ∃ r0 bd0, Hid (RdI w w2 w4 z a b h 0 (.slice none 0 0) [] r0 bd0 w5) := by
    obtain ⟨r, bd, a1, a2, a3, a4, a5⟩ := HW4.out
    have u5 : Upd [some w2.heap.size] w2 w5 := ((Upd.of_below (S := [some w2.heap.size]) HB3.out).trans a2 fun i hi => .inl hi).below hb5'
    exact ⟨r, bd, HL5, ⟨rfl, .inl ⟨rfl, rfl⟩⟩, a1.below hb5', ⟨u5.os, u5.tape, u5.output, u5.size, fun k hk _ => u5.block k hk (by simp; omega)⟩, by omega, fun _ => by have := HBL.out; omega, fun _ => ⟨[], rfl, rfl, fun x hx => by simp at hx⟩⟩
  rw [hw5]
  clear hw5 hb5' HL5 HH HU
  go_loopw [22] (fun _ wr => ∃ (j : Nat) (ev : Value) (xs : List Value) (r : List UInt8) (bd : Bool), Hid (RdI w w2 w4 z a b h j ev xs r bd wr)) (fun _ wr => rdLeft wr w2.heap.size)
  case atStart => exact ⟨0, .slice none 0 0, [], r0, bd0, HI0⟩
  case round =>
    clear HI0
    obtain ⟨j, ev, xs, r, bd, HI⟩ := hrel
    obtain ⟨ro, rc, r1, r2, r3, r4, r5⟩ := HI.out.rb
    have c0 : wr.cell? ⟨w2.heap.size, 0, none⟩ = some (.slice (some ⟨z, ro, none⟩) r.length rc) := by rw [cell_of_heap r1]; rfl
    have c1 : wr.cell? ⟨w2.heap.size, 1, none⟩ = some (.bool bd) := by rw [cell_of_heap r1]; rfl
    obtain ⟨pe, ce, hev⟩ := own_form HI.out.row
    subst hev
    have h1 := HI.out.lt
    have l0 : wr.cell? ⟨w4.heap.size, 0, none⟩ = some (.int .i64 (a : Int)) := by rw [cell_of_heap h1]; rfl
    have l3 : wr.cell? ⟨w4.heap.size, 3, none⟩ = some (.slice pe j ce) := by rw [cell_of_heap h1]; rfl
    have hzs : z < w2.heap.size := by omega
    clear r1 r2 r5
    by_cases hgo : 0 < r.length ∧ bd = false
    · obtain ⟨hr0, rfl⟩ := hgo
      have hpos : (0 : Int) < (r.length : Int) := by omega
      have hw4r : w4.heap.size < wr.heap.size := (Array.getElem?_eq_some_iff.1 h1).1
      have hvr : VerbsAt wr := fun k => HI.out.upd.cell (HW2.out.1.cell (p := ⟨0, k.num, none⟩) (by show 0 < w.heap.size; omega) ▸ hv k) (by simp)
      have HEN : Hid (Calls Tryz.prog 107 #[.pointer (some ⟨w2.heap.size, 0, none⟩), .int .i64 (a : Int)] wr.drew fun e w' => ∃ (seq : Nat) (ah : Rc) (kn : Nat) (wd : ByteArray) (ct : Nat) (r' : List UInt8) (b' : Bool), e = .returned (.agg #[.int .i64 (a : Int), .int .i64 (seq : Int), .int .i64 (ah.a : Int), .int .i64 (ah.b : Int), .int .i64 (ah.c : Int), .int .i64 (ah.d : Int), .int .i64 (ah.e : Int), .int .i64 (kn : Int), .string wd, .int .i64 (ct : Int)]) ∧ w'.cell? ⟨w4.heap.size, 3, none⟩ = some (.slice pe j ce) ∧ w'.frozen? ⟨w4.heap.size, 3, none⟩ = false ∧ w'.cell? ⟨w4.heap.size, 0, none⟩ = some (.int .i64 (a : Int)) ∧ w'.ownsRow (w4.heap.size + 1) 122 10 (.slice pe j ce) j xs ∧ (b' = false → ∃ x : En, x.org = a ∧ x.seq = seq ∧ x.ah = ah ∧ x.c.k.num = kn ∧ x.c.word = wd ∧ x.c.count = ct ∧ x.ah.lt 72057594037927936 ∧ x.seq = x.ah.get x.org + 1 ∧ readC (textOf x.c) = some x.c) ∧ Rb w' w2.heap.size z r' b' ∧ Upd [some w2.heap.size] wr w' ∧ r'.length ≤ r.length ∧ (b' = false → r'.length < r.length)) := by
        refine (entryX wr.drew w2.heap.size z a ha (by show z < wr.heap.size; omega) (by omega) hvr r false HI.out.rb).mono ?_
        rintro e w' ⟨r', b', ⟨seq, ah, kn, wd, ct, e1, e2⟩, e4, e3, e5, -, e6⟩
        have e3' : Upd [some w2.heap.size] wr w' := ⟨e3.os, e3.tape, e3.output, e3.size, e3.block⟩
        have hl : w'.heap[w4.heap.size]? = some (.cells #[.int .i64 (a : Int), .int .i64 (b : Int), .int .i64 (h : Int), .slice pe j ce] 140 (0, 0)) := by rw [e3'.block _ hw4r (by simp; omega)]; exact h1
        exact ⟨seq, ah, kn, wd, ct, r', b', e1, by rw [cell_of_heap hl]; rfl, frozen_of_heap hl 3, by rw [cell_of_heap hl]; rfl, e3'.owns HI.out.row fun k hk hmem => by have := own_ge HI.out.row hk; simp at hmem; omega, e2, e4, e3', e5, e6⟩
      have hne : (Value.slice pe j ce).ownBlock ≠ some w4.heap.size := fun e => by have := own_ge HI.out.row e; omega
      have hje : j ≤ 200 := by have := HI.out.sum rfl; omega
      have HEND : Hid (∀ seq ah kn ct wd r' b' w6 w7 g7 cap7, (b' = false → ∃ x : En, x.org = a ∧ x.seq = seq ∧ x.ah = ah ∧ x.c.k.num = kn ∧ x.c.word = wd ∧ x.c.count = ct ∧ x.ah.lt 72057594037927936 ∧ x.seq = x.ah.get x.org + 1 ∧ readC (textOf x.c) = some x.c) → Rb w6 w2.heap.size z r' b' → Upd [some w2.heap.size] wr w6 → r'.length ≤ r.length → (b' = false → r'.length < r.length) → w7.ownsRow (w4.heap.size + 1) 122 10 (.slice (some ⟨g7, 0, none⟩) (j + 1) cap7) (j + 1) (xs ++ [.int .i64 (a : Int), .int .i64 (seq : Int), .int .i64 (ah.a : Int), .int .i64 (ah.b : Int), .int .i64 (ah.c : Int), .int .i64 (ah.d : Int), .int .i64 (ah.e : Int), .int .i64 (kn : Int), .string wd, .int .i64 (ct : Int)]) → (w6.alloc (.cells #[.int .i64 (a : Int), .int .i64 (seq : Int), .int .i64 (ah.a : Int), .int .i64 (ah.b : Int), .int .i64 (ah.c : Int), .int .i64 (ah.d : Int), .int .i64 (ah.e : Int), .int .i64 (kn : Int), .string wd, .int .i64 (ct : Int)] 122)).grownBy w7 (Value.slice pe j ce).ownBlock →
          Hid (RdI w w2 w4 z a b h (j + 1) (.slice (some ⟨g7, 0, none⟩) (j + 1) cap7) (xs ++ [.int .i64 (a : Int), .int .i64 (seq : Int), .int .i64 (ah.a : Int), .int .i64 (ah.b : Int), .int .i64 (ah.c : Int), .int .i64 (ah.d : Int), .int .i64 (ah.e : Int), .int .i64 (kn : Int), .string wd, .int .i64 (ct : Int)]) r' b' (w7.setCell ⟨w4.heap.size, 3, none⟩ (.slice (some ⟨g7, 0, none⟩) (j + 1) cap7))) ∧ rdLeft (w7.setCell ⟨w4.heap.size, 3, none⟩ (.slice (some ⟨g7, 0, none⟩) (j + 1) cap7)) w2.heap.size < rdLeft wr w2.heap.size) := fun seq ah kn ct wd r' b' w6 w7 g7 cap7 q1 q2 q3 q4 q5 q6 q7 => HI.out.next hzs (by omega) q1 q2 q3 q4 q5 hr0 q6 q7
      clear h1 hvr HI
      go_upto_region 7 with fail
      go_region_law
        (first
          | (rw [if_pos (by rfl)]; (try dsimp only [List.getElem_toArray, List.getElem_cons_zero, List.getElem_cons_succ]); go_simp; refine HEN.out.mono ?_; rintro e w6 ⟨seq, ah, kn, wd, ct, r', b', rfl, k3, kf, k0, ho6, hr6⟩; have HO6 : Hid (w6.ownsRow (w4.heap.size + 1) 122 10 (.slice pe j ce) j xs ∧ (b' = false → ∃ x : En, x.org = a ∧ x.seq = seq ∧ x.ah = ah ∧ x.c.k.num = kn ∧ x.c.word = wd ∧ x.c.count = ct ∧ x.ah.lt 72057594037927936 ∧ x.seq = x.ah.get x.org + 1 ∧ readC (textOf x.c) = some x.c) ∧ Rb w6 w2.heap.size z r' b' ∧ Upd [some w2.heap.size] wr w6 ∧ r'.length ≤ r.length ∧ (b' = false → r'.length < r.length)) := ⟨ho6, hr6⟩; have hs6 := hr6.2.2.1.size; clear ho6 hr6; have ka : ∀ o, (w6.alloc o).cell? ⟨w4.heap.size, 3, none⟩ = some (.slice pe j ce) := fun o => (World.cell?_of_block (a := ⟨w4.heap.size, 3, none⟩) (Below.heap_alloc w6 o w4.heap.size (by omega))).trans k3)
          | (refine step_append_lies _ (by rfl) _ _ _ (by rfl) (w4.heap.size + 1) 122 i3 _ 10 88 Tryz.underlying101 hi3 hy0 hy1 hy2 rfl (by omega) (.slice pe j ce) j xs (by rfl) ((Upd.alloc (Upd.refl [] w6) _).owns HO6.out.1 (by simp))
              ⟨w6.heap.size, 0, none⟩ 1 1 [.int .i64 (a : Int), .int .i64 (seq : Int), .int .i64 (ah.a : Int), .int .i64 (ah.b : Int), .int .i64 (ah.c : Int), .int .i64 (ah.d : Int), .int .i64 (ah.e : Int), .int .i64 (kn : Int), .string wd, .int .i64 (ct : Int)] (by rfl) (by rfl) (World.news_of_block (heap_alloc_new w6 _)) (by simp [Value.oneCell'])
              (by omega) (by unfold maxLen; omega) (by omega) (by simp; omega) (w6.heap.size + 1) (by simp) ?_; intro g7 cap7 w7 ho7 hg7 hat7 hlt7; have s3 : w7.cell? ⟨w4.heap.size, 3, none⟩ = some (.slice pe j ce) := (hg7.cell_far ⟨w4.heap.size, 3, none⟩ (by first | (simp; done) | (simp; omega)) (Ne.symm hne)).trans ((World.cell?_of_block (a := ⟨w4.heap.size, 3, none⟩) (Below.heap_alloc w6 _ w4.heap.size (by omega))).trans k3); have sf : w7.frozen? ⟨w4.heap.size, 3, none⟩ = false := (hg7.frozen_far ⟨w4.heap.size, 3, none⟩ (by first | (simp; done) | (simp; omega)) (Ne.symm hne)).trans ((World.frozen?_of_block (a := ⟨w4.heap.size, 3, none⟩) (Below.heap_alloc w6 _ w4.heap.size (by omega))).trans kf)))
      all_goals obtain ⟨R, M⟩ := HEND.out _ _ _ _ _ _ _ _ _ _ _ HO6.out.2.1 HO6.out.2.2.1 HO6.out.2.2.2.1 HO6.out.2.2.2.2.1 HO6.out.2.2.2.2.2 ho7 hg7
      all_goals go_wp2
      all_goals
        go_roundw
        case rel => exact ⟨j + 1, _, _, _, _, R⟩
        case measure => exact M
    · have hstop : bd = true ∨ (bd = false ∧ r.length = 0) := by
        cases bd with
        | true => exact .inl rfl
        | false => exact .inr ⟨rfl, by rcases Nat.eq_zero_or_pos r.length with e | e; exact e; exact absurd ⟨e, rfl⟩ hgo⟩
      have k0 : wr.heap[w.heap.size]? = some (.cells #[.int .i64 0, .int .i64 0, .int .i64 0, .slice none 0 0] 140 (0, 0)) := by rw [HI.out.upd.block _ hs2b (by simp)]; exact HW2.out.2.2
      have l1 : wr.cell? ⟨w4.heap.size, 1, none⟩ = some (.int .i64 (b : Int)) := by rw [cell_of_heap h1]; rfl
      have l2 : wr.cell? ⟨w4.heap.size, 2, none⟩ = some (.int .i64 (h : Int)) := by rw [cell_of_heap h1]; rfl
      have z0 : wr.cell? ⟨w.heap.size, 0, none⟩ = some (.int .i64 0) := by rw [cell_of_heap k0]; rfl
      have z1 : wr.cell? ⟨w.heap.size, 1, none⟩ = some (.int .i64 0) := by rw [cell_of_heap k0]; rfl
      have z2 : wr.cell? ⟨w.heap.size, 2, none⟩ = some (.int .i64 0) := by rw [cell_of_heap k0]; rfl
      have z3 : wr.cell? ⟨w.heap.size, 3, none⟩ = some (.slice none 0 0) := by rw [cell_of_heap k0]; rfl
      have zf := frozen_of_heap k0
      have HB : Hid (Below w.heap.size w wr) := HW2.out.1.trans ⟨HI.out.upd.os, HI.out.upd.tape, HI.out.upd.output, HI.out.upd.size, fun k hk => HI.out.upd.block k (by omega) (by simp)⟩
      have hU4 : ∀ v0 v1 v2 v3, Upd [some w.heap.size] wr ((((wr.setCell ⟨w.heap.size, 0, none⟩ v0).setCell ⟨w.heap.size, 1, none⟩ v1).setCell ⟨w.heap.size, 2, none⟩ v2).setCell ⟨w.heap.size, 3, none⟩ v3) := fun v0 v1 v2 v3 => ((((Upd.refl _ _).setCell (.inl (by simp)) _).setCell (.inl (by simp)) _).setCell (.inl (by simp)) _).setCell (.inl (by simp)) _
      have HU4 : Hid (∀ v0 v1 v2 v3, Upd [some w.heap.size] wr ((((wr.setCell ⟨w.heap.size, 0, none⟩ v0).setCell ⟨w.heap.size, 1, none⟩ v1).setCell ⟨w.heap.size, 2, none⟩ v2).setCell ⟨w.heap.size, 3, none⟩ v3)) := hU4
      clear h1 k0 hU4
      rcases hstop with rfl | ⟨rfl, hr0⟩
      · clear HI
        rcases Nat.eq_zero_or_pos r.length with hr0 | hr0
        · rw [hr0] at c0
          go_wp2
          exact bodyPost_ret (v := .tuple #[.agg #[.int .i64 0, .int .i64 0, .int .i64 0, .slice none 0 0], .bool false]) (by simp [results, Tryz.results59, go_sem, z0, z1, z2, z3]) rfl ⟨.inl rfl, (((HB.out.setCell (by simp) _).setCell (by simp) _).setCell (by simp) _).setCell (by simp) _⟩
        · have hpos : (0 : Int) < (r.length : Int) := by omega
          go_wp2
          exact bodyPost_ret (v := .tuple #[.agg #[.int .i64 0, .int .i64 0, .int .i64 0, .slice none 0 0], .bool false]) (by simp [results, Tryz.results59, go_sem, z0, z1, z2, z3]) rfl ⟨.inl rfl, (((HB.out.setCell (by simp) _).setCell (by simp) _).setCell (by simp) _).setCell (by simp) _⟩
      · obtain ⟨es, e1, e2, e3⟩ := HI.out.en rfl
        have hle := HI.out.le
        have HO : Hid (wr.ownsRow (w4.heap.size + 1) 122 10 (.slice pe j ce) es.length (enRow es)) := by show wr.ownsRow _ _ _ _ _ _; rw [← e1, e2]; exact HI.out.row
        have HES : Hid (EnAny a es) := e3
        rw [hr0] at c0
        clear HI e1
        go_wp2
        exact bodyPost_ret (v := .tuple #[.agg #[.int .i64 (a : Int), .int .i64 (b : Int), .int .i64 (h : Int), .slice pe j ce], .bool true]) (by simp [results, Tryz.results59, go_sem, z0, z1, z2, z3]) rfl ⟨.inr ⟨a, b, h, _, es, rfl, ha, hb5, hh, by omega, HES.out, owns_base ((HU4.out _ _ _ _).owns HO.out fun k hk hmem => by have := own_ge HO.out hk; simp at hmem; omega) (by omega)⟩, (((HB.out.setCell (by simp) _).setCell (by simp) _).setCell (by simp) _).setCell (by simp) _⟩

/-- Read, of whatever bytes. -/
theorem readX (p : Option Addr) (cap : Nat) (f : List UInt8) (hcap : f.length ≤ cap) (hfl : f.length ≤ 1000000000) (hm : cap ≤ 9223372036854775807) (w : World) (hb : BytesAt w (.slice p f.length cap) f) (hR : RemAt w) (hG : 1 < w.heap.size) (hv : VerbsAt w) :
    Calls Tryz.prog 59 #[.slice p f.length cap] w fun e w' => ReadTo w e w' ∧ Below w.heap.size w w' := by
  cases hok : okB f with
  | false =>
    refine (readG_bad p cap f hcap hfl hm w hb hR hG hok).mono ?_
    rintro e w' ⟨h1, h2⟩
    exact ⟨.inl h1, h2⟩
  | true =>
    have hl5 := ((okB_iff f).1 hok).1
    obtain ⟨p', c', h1, h2⟩ := id hb
    obtain ⟨b', o', h3, h4⟩ := h2 0 f[0] (List.getElem?_eq_getElem (by omega))
    simp only [Value.slice.injEq, true_and] at h1
    obtain ⟨rfl, rfl⟩ := h1
    subst h3
    exact readX_ok b' o' cap f hcap hm w hb (World.block_lt_of_cell? w _ h4) hR hG hv hok

end Go.Proofs.YtckmppkdpnhodaaGreatDoor
