/-
  (*World).asks over the whole world in memory.
-/
import Derived.Test.YtckmppkdpnhodaaGreatDoorT05
namespace Go.Proofs.YtckmppkdpnhodaaGreatDoor
set_option linter.unusedVariables false
set_option linter.unusedSimpArgs false
open Go.RowKit

theorem traceCells_get : ∀ (tr : List Dn) (bvs : List Value) (i : Nat) (h : i < tr.length) (h' : i < bvs.length), ∀ o v, [Value.int .i64 (tr[i].org : Int), .int .i64 (tr[i].seq : Int), .string tr[i].text, .string tr[i].c.k.bs, .string tr[i].c.word, .int .i64 (tr[i].c.count : Int), bvs[i]][o]? = some v → (traceCells tr bvs)[i * 7 + o]? = some v
  | [], _, i, h, _ => by simp at h
  | _ :: _, [], i, _, h' => by simp at h'
  | d :: tr, b :: bvs, 0, _, _ => fun o v ho => by
    have hl : o < 7 := by
      have := (List.getElem?_eq_some_iff.1 ho).1
      simpa using this
    have e : traceCells (d :: tr) (b :: bvs) = [Value.int .i64 (d.org : Int), .int .i64 (d.seq : Int), .string d.text, .string d.c.k.bs, .string d.c.word, .int .i64 (d.c.count : Int), b] ++ traceCells tr bvs := by simp [traceCells]
    rw [e, Nat.zero_mul, Nat.zero_add, List.getElem?_append_left (by simpa using hl)]
    exact ho
  | d :: tr, b :: bvs, i + 1, h, h' => fun o v ho => by
    have ih := traceCells_get tr bvs i (by simpa using h) (by simpa using h') o v (by simpa using ho)
    have e : traceCells (d :: tr) (b :: bvs) = [Value.int .i64 (d.org : Int), .int .i64 (d.seq : Int), .string d.text, .string d.c.k.bs, .string d.c.word, .int .i64 (d.c.count : Int), b] ++ traceCells tr bvs := by simp [traceCells]
    rw [e, List.getElem?_append_right (by simp; omega)]
    have : (i + 1) * 7 + o - 7 = i * 7 + o := by omega
    simpa [this] using ih

variable {R : World → Nat → Nat → Nat → List Cm → (Nat → Prop) → Prop}

theorem Mem.trace {w : World} {c : Nat → Nat} {L : Lay} {st : St} (h : Mem R w c L st) : TraceIn (fun b => c b = 3 ∨ c b = 9) w L.tv st.tr := by
  rcases id h.trow.2 with ⟨hv, h0⟩ | ⟨g, cap, cur, hv, hb, hg, h1, h2, h3, h4⟩
  · refine ⟨none, 0, by rw [hv, h0], fun i d hd => ?_⟩
    have := (List.getElem?_eq_some_iff.1 hd).1
    omega
  · refine ⟨some ⟨g, 0, none⟩, cap, hv, fun i d hd => ?_⟩
    obtain ⟨hi, rfl⟩ := List.getElem?_eq_some_iff.1 hd
    have hi' : i < L.bvs.length := by rw [h.blen]; exact hi
    obtain ⟨hn, hc, hl⟩ := h.bef i hi hi'
    have hcell : ∀ o v, [Value.int .i64 (st.tr[i].org : Int), .int .i64 (st.tr[i].seq : Int), .string st.tr[i].text, .string st.tr[i].c.k.bs, .string st.tr[i].c.word, .int .i64 (st.tr[i].c.count : Int), L.bvs[i]][o]? = some v → w.cell? ⟨g, i * 7 + o, none⟩ = some v := fun o v ho => by
      have := h.trow.cells (g := g) (by rw [hv]; rfl) _ _ (traceCells_get st.tr L.bvs i hi hi' o v ho)
      rwa [Addr.add_mid, Nat.zero_add] at this
    exact ⟨g, L.bvs[i], rfl, .inl (h.tvc g (by rw [hv]; rfl)), hcell 0 _ rfl, hcell 1 _ rfl, hcell 2 _ rfl, hcell 3 _ rfl, hcell 4 _ rfl, hcell 5 _ rfl, hcell 6 _ rfl, hn, fun b hb => .inr (hc b hb).1, hl⟩

/-- What stands behind asks. -/
def St.asked (st : St) (k : Nat) (ids : List Nat) : St :=
  { st with
    xss := st.xss.set k ids
    fresh := st.fresh.set k false
    bk := st.bk ++ [(ids.length, -1 - (st.bk.length : Int)), (ids.length + 1, -1 - (st.bk.length : Int)), (ids.length + 2, -1 - (st.bk.length : Int)), (ids.length + 3, -1 - (st.bk.length : Int))] }

/-- Of the blocks that were there: the colours stand; what is nobody's has not turned. -/
structure Stp (w : World) (c : Nat → Nat) (w' : World) (c' : Nat → Nat) : Prop where
  os : w'.os = w.os
  tape : w'.tape = w.tape
  output : w'.output = w.output
  size : w.heap.size ≤ w'.heap.size
  col : ∀ b, b < w.heap.size → c' b = c b
  zero : ∀ b, b < w.heap.size → c b = 0 → w'.heap[b]? = w.heap[b]?

/-- The replicas' predicate hangs on the blocks of their colour alone. -/
structure Local (R : World → Nat → Nat → Nat → List Cm → (Nat → Prop) → Prop) : Prop where
  same : ∀ {w w' : World} {rb n me : Nat} {log : List Cm} {F F' : Nat → Prop}, R w rb n me log F → w.heap.size ≤ w'.heap.size → (∀ b, F b → b < w.heap.size → w'.heap[b]? = w.heap[b]? ∧ F' b) → R w' rb n me log F'

theorem Mem.asked (hR : Local R) {w w' : World} {c : Nat → Nat} {L : Lay} {st : St} (h : Mem R w c L st) {k : Nat} (hk : k < st.n) {ids : List Nat} {u : Value} (hu : L.KB[k]? = some u) (huc : ∀ b, u.ownBlock = some b → c b = 10 + k)
    (hp : AskPost w w' L.wb L.kb L.fb k (L.C st.n) L.KB L.FB 82 75 4 L.osv L.kov u st.bk.length L.us (st.bk.map fun e => .int .i64 e.2) ids) :
    ∃ c' L', L'.wb = L.wb ∧ Mem R w' c' L' (st.asked k ids) ∧ Stp w c w' c' := by
  obtain ⟨up, hfresh, u', osv', kov', l, g, h', j, pk, prow, pub, pwb, pos, pko, ml, mg, mh, mj, nos, nko, nx, du, dos, dko⟩ := hp
  obtain ⟨n1, n2⟩ := h.npos
  let c' : Nat → Nat := fun b => if b < w.heap.size then c b else if u'.ownBlock = some b then 10 + k else if osv'.ownBlock = some b then 7 else if kov'.ownBlock = some b then 8 else 9
  have cold : ∀ b, b < w.heap.size → c' b = c b := fun b hb => if_pos hb
  have same : ∀ b, b < w.heap.size → c b ≠ 1 → c b ≠ 4 → c b ≠ 6 → c b ≠ 10 + k → c b ≠ 7 → c b ≠ 8 → w'.heap[b]? = w.heap[b]? := fun b hb a1 a2 a3 a4 a5 a6 =>
    up.block b hb fun hm => by
      simp only [List.mem_cons, List.not_mem_nil, or_false, Option.some.injEq] at hm
      rcases hm with hm | hm | hm | hm | hm | hm
      · exact a1 (by rw [hm]; exact h.wbc)
      · exact a2 (by rw [hm]; exact h.kbc)
      · exact a3 (by rw [hm]; exact h.fbc)
      · exact a4 (huc b hm.symm)
      · exact a5 (h.ovc b hm.symm)
      · exact a6 (h.kvc b hm.symm)
  have owns : ∀ {e : TypeId} {size : Nat} {v : Value} {n : Nat} {xs : List Value} (col : Nat), w.ownsRow 0 e size v n xs → (∀ b, v.ownBlock = some b → c b = col) → col ≠ 1 → col ≠ 4 → col ≠ 6 → col ≠ 10 + k → col ≠ 7 → col ≠ 8 → w'.ownsRow 0 e size v n xs := fun col ho hc a1 a2 a3 a4 a5 a6 => by
    refine ⟨ho.1, ?_⟩
    rcases ho.2 with hn | ⟨g, cap, cur, rfl, hb, hg, rest⟩
    · exact .inl hn
    · have e := hc g rfl
      exact .inr ⟨g, cap, cur, rfl, hb, by rw [same g (Array.getElem?_eq_some_iff.1 hg).1 (by omega) (by omega) (by omega) (by omega) (by omega) (by omega)]; exact hg, rest⟩
  have clt : ∀ {e : TypeId} {size : Nat} {v : Value} {n : Nat} {xs : List Value} {col : Nat}, w.ownsRow 0 e size v n xs → (∀ b, v.ownBlock = some b → c b = col) → ∀ b, v.ownBlock = some b → c' b = col := fun ho hc b hb => by
    rw [cold b (ho.lt b hb).2]; exact hc b hb
  have wbl := (Array.getElem?_eq_some_iff.1 h.wbk).1
  have kbl := (Array.getElem?_eq_some_iff.1 h.kbk).1
  have fbl := (Array.getElem?_eq_some_iff.1 h.fbk).1
  have hks : k < L.KB.size := (Array.getElem?_eq_some_iff.1 hu).1
  have lus : L.us.length = st.bk.length := by simpa using h.orow.1
  refine ⟨c', { L with KB := L.KB.setIfInBounds k u', FB := L.FB.setIfInBounds k (.bool false), osv := osv', kov := kov', us := L.us ++ [l, g, h', j] }, rfl, ?_, ⟨up.os, up.tape, up.output, up.size, cold, fun b hb e => same b hb (by omega) (by omega) (by omega) (by omega) (by omega) (by omega)⟩⟩
  have cnew : ∀ b, w.heap.size ≤ b → ∀ x ∈ [l, g, h', j], x.ownBlock = some b → c' b = 9 := fun b hb x hx e => by
    have h1 : ¬ b < w.heap.size := by omega
    show (if b < w.heap.size then c b else _) = 9
    rw [if_neg h1, if_neg (fun e' => (du b e').2.2 x hx e), if_neg (fun e' => (dos b e').2 x hx e), if_neg (fun e' => dko b e' x hx e)]
  have col1 : c' L.wb = 1 := (cold _ wbl).trans h.wbc
  exact
    { npos := h.npos
      wbk := by
        have e : ((L.C st.n).setIfInBounds 10 osv').setIfInBounds 11 kov' = Lay.C { L with KB := L.KB.setIfInBounds k u', FB := L.FB.setIfInBounds k (.bool false), osv := osv', kov := kov', us := L.us ++ [l, g, h', j] } st.n := by
          simp [Lay.C]
        rw [e] at pwb; exact pwb
      wbc := col1
      lbc := by
        by_cases hl : L.lb < w.heap.size
        · exact (cold _ hl).trans h.lbc
        · have h0 : 0 < st.rbs.length := by rw [h.llen]; omega
          exact absurd (World.block_lt_of_cell? w _ (h.lcell 0 h0)) hl
      lcell := fun i hi => by
        have hc := h.lcell i hi
        have hl := World.block_lt_of_cell? w _ hc
        have e := h.lbc
        exact (World.cell?_of_block (a := ⟨L.lb, i, none⟩) (same L.lb hl (by omega) (by omega) (by omega) (by omega) (by omega) (by omega))).trans hc
      llen := h.llen
      trow := owns 3 h.trow h.tvc (by omega) (by omega) (by omega) (by omega) (by omega) (by omega)
      tvc := clt h.trow h.tvc
      blen := h.blen
      bef := fun i hi hi' => by
        obtain ⟨a1, a2, a3⟩ := h.bef i hi hi'
        refine ⟨a1.same fun b hb hl => ?_, fun b hb => ?_, a3⟩
        · have e := (a2 b hb).1
          exact same b hl (by omega) (by omega) (by omega) (by omega) (by omega) (by omega)
        · have e := a2 b hb
          exact ⟨(cold b e.2).trans e.1, Nat.lt_of_lt_of_le e.2 up.size⟩
      kbk := pk
      kbc := (cold _ kbl).trans h.kbc
      xlen := by simp [St.asked, h.xlen]
      xrow := fun i hi => by
        by_cases hik : i = k
        · subst hik
          refine ⟨u', by simp [Array.getElem?_setIfInBounds_self_of_lt hks], ?_, fun b hb => ?_⟩
          · simpa [St.asked] using prow
          · rcases pub b hb with h1 | h1
            · by_cases hl : b < w.heap.size
              · rw [cold b hl]; exact huc b h1
              · show (if b < w.heap.size then c b else _) = _
                rw [if_neg hl, if_pos hb]
            · show (if b < w.heap.size then c b else _) = _
              rw [if_neg (by omega), if_pos hb]
        · have hi2 : i < st.xss.length := by simpa [St.asked] using hi
          obtain ⟨v, hv, ho, hc⟩ := h.xrow i hi2
          have hin : i < st.n := by rw [← h.xlen]; exact hi2
          refine ⟨v, by simp only; rw [Array.getElem?_setIfInBounds_ne (fun e => hik e.symm)]; exact hv, ?_, clt ho hc⟩
          have := owns (10 + i) ho hc (by omega) (by omega) (by omega) (by omega) (by omega) (by omega)
          have e : (st.asked k ids).xss[i] = st.xss[i] := by simp [St.asked, List.getElem_set_ne (fun e => hik e.symm)]
          rw [e]; exact this
      slen := h.slen
      srow := owns 5 h.srow h.svc (by omega) (by omega) (by omega) (by omega) (by omega) (by omega)
      svc := clt h.srow h.svc
      fbk := hfresh
      fbc := (cold _ fbl).trans h.fbc
      flen := by simp [St.asked, h.flen]
      fcell := fun i hi => by
        have hi2 : i < st.fresh.length := by simpa [St.asked] using hi
        have hf := h.fcell i hi2
        by_cases hik : i = k
        · subst hik
          have : i < L.FB.size := (Array.getElem?_eq_some_iff.1 hf).1
          simp [St.asked, Array.getElem?_setIfInBounds_self_of_lt this]
        · simp only; rw [Array.getElem?_setIfInBounds_ne (fun e => hik e.symm), hf]
          simp [St.asked, List.getElem_set_ne (fun e => hik e.symm)]
      orow := by simpa [St.asked] using pos
      ovc := fun b hb => by
        by_cases hl : b < w.heap.size
        · rw [cold b hl]
          rcases nos b hb with h1 | h1
          · exact h.ovc b h1
          · omega
        · show (if b < w.heap.size then c b else _) = _
          rw [if_neg hl, if_neg (fun e => (du b e).1 hb), if_pos hb]
      marks := fun i hi hi' => by
        by_cases hold : i < st.bk.length
        · have hold' : i < L.us.length := by omega
          obtain ⟨a1, a2⟩ := h.marks i hold hold'
          have e1 : (L.us ++ [l, g, h', j])[i] = L.us[i] := List.getElem_append_left hold'
          have e2 : (st.asked k ids).bk[i] = st.bk[i] := by simp [St.asked, List.getElem_append_left hold]
          simp only [e1, e2]
          refine ⟨a1.upd up fun b hb hm => ?_, fun b hb => ?_⟩
          · have e := (a2 b hb).1
            simp only [List.mem_cons, List.not_mem_nil, or_false, Option.some.injEq] at hm
            rcases hm with hm | hm | hm | hm | hm | hm
            · rw [hm, h.wbc] at e; omega
            · rw [hm, h.kbc] at e; omega
            · rw [hm, h.fbc] at e; omega
            · have := huc b hm.symm; omega
            · have := h.ovc b hm.symm; omega
            · have := h.kvc b hm.symm; omega
          · have e := a2 b hb
            exact ⟨(cold b e.2).trans e.1, Nat.lt_of_lt_of_le e.2 up.size⟩
        · have hlen : i < st.bk.length + 4 := by simpa [St.asked] using hi
          obtain ⟨t, rfl⟩ : ∃ t, i = st.bk.length + t := ⟨i - st.bk.length, by omega⟩
          have ht : t < 4 := by omega
          have e1 : ∀ x, [l, g, h', j][t]? = some x → (L.us ++ [l, g, h', j])[st.bk.length + t]'hi' = x := fun x hx => by
            have : (L.us ++ [l, g, h', j])[st.bk.length + t]? = some x := by
              rw [List.getElem?_append_right (by omega), lus, Nat.add_sub_cancel_left]; exact hx
            rw [List.getElem?_eq_getElem hi'] at this
            exact Option.some.inj this
          have e2 : ∀ x, [(ids.length, -1 - (st.bk.length : Int)), (ids.length + 1, -1 - (st.bk.length : Int)), (ids.length + 2, -1 - (st.bk.length : Int)), (ids.length + 3, -1 - (st.bk.length : Int))][t]? = some x → (st.asked k ids).bk[st.bk.length + t]'hi = x := fun x hx => by
            have : (st.asked k ids).bk[st.bk.length + t]? = some x := by
              simp only [St.asked]
              rw [List.getElem?_append_right (by omega), Nat.add_sub_cancel_left]; exact hx
            rw [List.getElem?_eq_getElem hi] at this
            exact Option.some.inj this
          rcases (show t = 0 ∨ t = 1 ∨ t = 2 ∨ t = 3 by omega) with rfl | rfl | rfl | rfl
          · simp only [e1 l rfl, e2 _ rfl]
            exact ⟨ml, fun b hb => ⟨cnew b (nx l (by simp) b hb).1 l (by simp) hb, (nx l (by simp) b hb).2⟩⟩
          · simp only [e1 g rfl, e2 _ rfl]
            exact ⟨mg, fun b hb => ⟨cnew b (nx g (by simp) b hb).1 g (by simp) hb, (nx g (by simp) b hb).2⟩⟩
          · simp only [e1 h' rfl, e2 _ rfl]
            exact ⟨mh, fun b hb => ⟨cnew b (nx h' (by simp) b hb).1 h' (by simp) hb, (nx h' (by simp) b hb).2⟩⟩
          · simp only [e1 j rfl, e2 _ rfl]
            exact ⟨mj, fun b hb => ⟨cnew b (nx j (by simp) b hb).1 j (by simp) hb, (nx j (by simp) b hb).2⟩⟩
      krow := by simpa [St.asked] using pko
      kvc := fun b hb => by
        by_cases hl : b < w.heap.size
        · rw [cold b hl]
          rcases nko b hb with h1 | h1
          · exact h.kvc b h1
          · omega
        · show (if b < w.heap.size then c b else _) = _
          rw [if_neg hl, if_neg (fun e => (du b e).2.1 hb), if_neg (fun e => (dos b e).1 hb), if_pos hb]
      logn := h.logn
      reps := fun i hi hi' => by
        have hin : i < st.n := by rw [← h.logn]; exact hi
        refine hR.same (h.reps i hi hi') up.size fun b hb hl => ⟨same b hl (by omega) (by omega) (by omega) (by omega) (by omega) (by omega), ?_⟩
        show c' b = _
        rw [cold b hl]; exact hb }

end Go.Proofs.YtckmppkdpnhodaaGreatDoor
