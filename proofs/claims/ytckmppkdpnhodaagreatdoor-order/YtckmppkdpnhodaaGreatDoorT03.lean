/-
  The world in memory behind a step that makes memory and turns nothing old; its cells; two texts of one cart are one. (*World).views over the whole world in memory. (*World).does over the whole world in memory, where the text is no command, or what is to go is not there. (*World).does over the whole world in memory, where the replica is full. The world in memory: new blocks are nobody's; behind a command that was done at a replica; behind what does writes of it. The plain mathematics of replicas that hear nothing: of a replica's own commands, and of the trace of all. append of a list of numbers onto nothing: a copy. (*World).does over the whole world in memory, where the command is done.
-/
import Derived.Test.YtckmppkdpnhodaaGreatDoorT02
import Derived.Deep.Cut
import Derived.Test.YtckmppkdpnhodaaGreatDoorT01
import Derived.Deep.RegionLaw
namespace Go.Proofs.YtckmppkdpnhodaaGreatDoor
set_option linter.unusedVariables false
set_option linter.unusedSimpArgs false
open Go.RowKit Go.Proofs

variable {R : World → Nat → Nat → Nat → List Cm → (Nat → Prop) → Prop}

theorem Mem.below (hR : Local R) {w w' : World} {c : Nat → Nat} {L : Lay} {st : St} (h : Mem R w c L st) (hb : Below w.heap.size w w') : Mem R w' c L st := by
  have ow : ∀ {e : TypeId} {size : Nat} {v : Value} {n : Nat} {xs : List Value}, w.ownsRow 0 e size v n xs → w'.ownsRow 0 e size v n xs := fun ho => (Upd.of_below (S := []) hb).owns ho (by simp)
  have bl : ∀ {b : Nat} {o : Obj}, w.heap[b]? = some o → w'.heap[b]? = some o := fun {b o} ho => (hb.block b (Array.getElem?_eq_some_iff.1 ho).1).trans ho
  exact
    { npos := h.npos
      wbk := bl h.wbk
      wbc := h.wbc
      lbc := h.lbc
      lcell := fun i hi => cell_below hb (h.lcell i hi)
      llen := h.llen
      trow := ow h.trow
      tvc := h.tvc
      blen := h.blen
      bef := fun i hi hi' => by
        obtain ⟨a1, a2, a3⟩ := h.bef i hi hi'
        exact ⟨a1.below hb, fun b hb' => ⟨(a2 b hb').1, Nat.lt_of_lt_of_le (a2 b hb').2 hb.size⟩, a3⟩
      kbk := bl h.kbk
      kbc := h.kbc
      xlen := h.xlen
      xrow := fun i hi => by
        obtain ⟨u, a1, a2, a3⟩ := h.xrow i hi
        exact ⟨u, a1, ow a2, a3⟩
      slen := h.slen
      srow := ow h.srow
      svc := h.svc
      fbk := bl h.fbk
      fbc := h.fbc
      flen := h.flen
      fcell := h.fcell
      orow := ow h.orow
      ovc := h.ovc
      marks := fun i hi hi' => by
        obtain ⟨a1, a2⟩ := h.marks i hi hi'
        exact ⟨a1.below hb, fun b hb' => ⟨(a2 b hb').1, Nat.lt_of_lt_of_le (a2 b hb').2 hb.size⟩⟩
      krow := ow h.krow
      kvc := h.kvc
      logn := h.logn
      reps := fun i hi hi' => hR.same (h.reps i hi hi') hb.size fun b hF hl => ⟨hb.block b hl, hF⟩ }

theorem Stp.refl (w : World) (c : Nat → Nat) : Stp w c w c := ⟨rfl, rfl, rfl, Nat.le_refl _, fun _ _ => rfl, fun _ _ _ => rfl⟩
theorem Stp.trans {a b d : World} {c1 c2 c3 : Nat → Nat} (h : Stp a c1 b c2) (k : Stp b c2 d c3) : Stp a c1 d c3 :=
  ⟨k.os.trans h.os, k.tape.trans h.tape, k.output.trans h.output, Nat.le_trans h.size k.size, fun i hi => (k.col i (Nat.lt_of_lt_of_le hi h.size)).trans (h.col i hi),
   fun i hi h0 => (k.zero i (Nat.lt_of_lt_of_le hi h.size) ((h.col i hi).trans h0)).trans (h.zero i hi h0)⟩
theorem Stp.below {a b : World} {c : Nat → Nat} (h : Below a.heap.size a b) : Stp a c b c := ⟨h.os, h.tape, h.output, h.size, fun _ _ => rfl, fun i hi _ => h.block i hi⟩

/-- The world's own cells. -/
theorem Mem.cell {w : World} {c : Nat → Nat} {L : Lay} {st : St} (h : Mem R w c L st) (o : Nat) : w.cell? ⟨L.wb, o, none⟩ = (L.C st.n)[o]? := cell_of_heap h.wbk o

/-- Two lists in order with the same members are one. -/
theorem sorted_unique : ∀ (a b : List Wd), a.Pairwise (· < ·) → b.Pairwise (· < ·) → (∀ x, x ∈ a ↔ x ∈ b) → a = b
  | [], [], _, _, _ => rfl
  | [], y :: b, _, _, h => by have := (h y).2 (List.mem_cons_self ..); simp at this
  | x :: a, [], _, _, h => by have := (h x).1 (List.mem_cons_self ..); simp at this
  | x :: a, y :: b, ha, hb, h => by
    obtain ⟨ha1, ha2⟩ := List.pairwise_cons.1 ha
    obtain ⟨hb1, hb2⟩ := List.pairwise_cons.1 hb
    have exy : x = y := by
      rcases List.mem_cons.1 ((h x).1 (List.mem_cons_self ..)) with e | e
      · exact e
      · rcases List.mem_cons.1 ((h y).2 (List.mem_cons_self ..)) with e' | e'
        · exact e'.symm
        · exact absurd (wd_trans (hb1 x e) (ha1 y e')) (wd_irrefl _)
    subst exy
    congr 1
    refine sorted_unique a b ha2 hb2 fun z => ⟨fun hz => ?_, fun hz => ?_⟩
    · rcases List.mem_cons.1 ((h z).1 (List.mem_cons_of_mem _ hz)) with e | e
      · subst e; exact absurd (ha1 z hz) (wd_irrefl _)
      · exact e
    · rcases List.mem_cons.1 ((h z).2 (List.mem_cons_of_mem _ hz)) with e | e
      · subst e; exact absurd (hb1 z hz) (wd_irrefl _)
      · exact e

end Go.Proofs.YtckmppkdpnhodaaGreatDoor

namespace Go.Proofs.YtckmppkdpnhodaaGreatDoor
set_option linter.unusedVariables false
set_option linter.unusedSimpArgs false
open Go.RowKit Go.Proofs

variable {R : World → Nat → Nat → Nat → List Cm → (Nat → Prop) → Prop}

attribute [local go_sem ↓] Go.wp_at_zero Go.wp_at_succ

end Go.Proofs.YtckmppkdpnhodaaGreatDoor

namespace Go.Proofs.YtckmppkdpnhodaaGreatDoor
set_option linter.unusedVariables false
set_option linter.unusedSimpArgs false
open Go.RowKit Go.Proofs

variable {R : World → Nat → Nat → Nat → List Cm → (Nat → Prop) → Prop}

attribute [local go_sem ↓] Go.wp_at_zero Go.wp_at_succ

/-- Is what the command is to take away not there? -/
def lacks (tr : List Dn) (ids : List Nat) (cm : Cm) : Bool :=
  (decide (cm.k = .listen) && decide (numberN tr ids cm.word = 0)) || (decide (cm.k = .finWait) && !hasB tr ids .established cm.word)

end Go.Proofs.YtckmppkdpnhodaaGreatDoor

namespace Go.Proofs.YtckmppkdpnhodaaGreatDoor
set_option linter.unusedVariables false
set_option linter.unusedSimpArgs false
open Go.RowKit Go.Proofs

variable {R : World → Nat → Nat → Nat → List Cm → (Nat → Prop) → Prop}

attribute [local go_sem ↓] Go.wp_at_zero Go.wp_at_succ

end Go.Proofs.YtckmppkdpnhodaaGreatDoor

namespace Go.Proofs.YtckmppkdpnhodaaGreatDoor
set_option linter.unusedVariables false
set_option linter.unusedSimpArgs false
open Go.RowKit Go.Proofs

variable {R : World → Nat → Nat → Nat → List Cm → (Nat → Prop) → Prop}

/-- What stands behind a command that was done at a replica. -/
def St.did (st : St) (k : Nat) (log : List Cm) : St := { st with logs := st.logs.set k log }

theorem Mem.did (hR : Local R) {w w' : World} {c : Nat → Nat} {L : Lay} {st : St} (h : Mem R w c L st) {k : Nat} (hk : k < st.n) {log : List Cm}
    (hos : w'.os = w.os) (htape : w'.tape = w.tape) (hout : w'.output = w.output) (hsz : w.heap.size ≤ w'.heap.size) (same : ∀ b, b < w.heap.size → c b ≠ 20 + k → w'.heap[b]? = w.heap[b]?)
    (hR' : R w' (st.rbs[k]'(by rw [h.llen]; exact hk)) st.n k log fun b => (b < w.heap.size ∧ c b = 20 + k) ∨ w.heap.size ≤ b) :
    ∃ c', Mem R w' c' L (st.did k log) ∧ Stp w c w' c' := by
  let c' : Nat → Nat := fun b => if b < w.heap.size then c b else 20 + k
  have cold : ∀ b, b < w.heap.size → c' b = c b := fun b hb => if_pos hb
  have hn := h.npos
  have owns : ∀ {e : TypeId} {size : Nat} {v : Value} {n : Nat} {xs : List Value} (col : Nat), w.ownsRow 0 e size v n xs → (∀ b, v.ownBlock = some b → c b = col) → col ≠ 20 + k → w'.ownsRow 0 e size v n xs := fun col ho hc a1 => by
    refine ⟨ho.1, ?_⟩
    rcases ho.2 with hn | ⟨g, cap, cur, rfl, hb, hg, rest⟩
    · exact .inl hn
    · have e := hc g rfl
      exact .inr ⟨g, cap, cur, rfl, hb, by rw [same g (Array.getElem?_eq_some_iff.1 hg).1 (by omega)]; exact hg, rest⟩
  have clt : ∀ {e : TypeId} {size : Nat} {v : Value} {n : Nat} {xs : List Value} {col : Nat}, w.ownsRow 0 e size v n xs → (∀ b, v.ownBlock = some b → c b = col) → ∀ b, v.ownBlock = some b → c' b = col := fun ho hc b hb => by
    rw [cold b (ho.lt b hb).2]; exact hc b hb
  have bl : ∀ {b : Nat} {o : Obj}, w.heap[b]? = some o → c b ≠ 20 + k → w'.heap[b]? = some o := fun {b o} ho hc => (same b (Array.getElem?_eq_some_iff.1 ho).1 hc).trans ho
  have h0 : 0 < st.rbs.length := by rw [h.llen]; omega
  have lbl := World.block_lt_of_cell? w _ (h.lcell 0 h0)
  refine ⟨c', ?_, ⟨hos, htape, hout, hsz, cold, fun b hb e => same b hb (by omega)⟩⟩
  exact
    { npos := h.npos
      wbk := bl h.wbk (by rw [h.wbc]; omega)
      wbc := (cold _ (Array.getElem?_eq_some_iff.1 h.wbk).1).trans h.wbc
      lbc := (cold _ lbl).trans h.lbc
      lcell := fun i hi => (World.cell?_of_block (a := ⟨L.lb, i, none⟩) (same L.lb lbl (by rw [h.lbc]; omega))).trans (h.lcell i hi)
      llen := h.llen
      trow := owns 3 h.trow h.tvc (by omega)
      tvc := clt h.trow h.tvc
      blen := h.blen
      bef := fun i hi hi' => by
        obtain ⟨a1, a2, a3⟩ := h.bef i hi hi'
        refine ⟨a1.same fun b hb hl => ?_, fun b hb => ?_, a3⟩
        · have e := (a2 b hb).1
          exact same b hl (by omega)
        · have e := a2 b hb
          exact ⟨(cold b e.2).trans e.1, Nat.lt_of_lt_of_le e.2 hsz⟩
      kbk := bl h.kbk (by rw [h.kbc]; omega)
      kbc := (cold _ (Array.getElem?_eq_some_iff.1 h.kbk).1).trans h.kbc
      xlen := h.xlen
      xrow := fun i hi => by
        obtain ⟨u, a1, a2, a3⟩ := h.xrow i hi
        have hin : i < st.n := by rw [← h.xlen]; exact hi
        exact ⟨u, a1, owns (10 + i) a2 a3 (by omega), clt a2 a3⟩
      slen := h.slen
      srow := owns 5 h.srow h.svc (by omega)
      svc := clt h.srow h.svc
      fbk := bl h.fbk (by rw [h.fbc]; omega)
      fbc := (cold _ (Array.getElem?_eq_some_iff.1 h.fbk).1).trans h.fbc
      flen := h.flen
      fcell := h.fcell
      orow := owns 7 h.orow h.ovc (by omega)
      ovc := clt h.orow h.ovc
      marks := fun i hi hi' => by
        obtain ⟨a1, a2⟩ := h.marks i hi hi'
        refine ⟨?_, fun b hb => ⟨(cold b (a2 b hb).2).trans (a2 b hb).1, Nat.lt_of_lt_of_le (a2 b hb).2 hsz⟩⟩
        obtain ⟨p, cap, hv, hc⟩ := a1
        refine ⟨p, cap, hv, fun j hj => ?_⟩
        obtain ⟨g, hg, c0, c1, c2⟩ := hc j hj
        have hl := World.block_lt_of_cell? w _ c0
        have e := (a2 g (by rw [hv, hg]; rfl)).1
        have hs := same g hl (by omega)
        exact ⟨g, hg, (World.cell?_of_block (a := ⟨g, _, none⟩) hs).trans c0, (World.cell?_of_block (a := ⟨g, _, none⟩) hs).trans c1, (World.cell?_of_block (a := ⟨g, _, none⟩) hs).trans c2⟩
      krow := owns 8 h.krow h.kvc (by omega)
      kvc := clt h.krow h.kvc
      logn := by simp [St.did, h.logn]
      reps := fun i hi hi' => by
        by_cases hik : i = k
        · subst hik
          have e : (st.did i log).logs[i] = log := by simp [St.did]
          rw [e]
          refine hR.same hR' (Nat.le_refl _) fun b hF hl => ⟨rfl, ?_⟩
          rcases hF with ⟨h1, h2⟩ | h1
          · exact (cold b h1).trans h2
          · exact if_neg (by omega)
        · have hi2 : i < st.logs.length := by simpa [St.did] using hi
          have e : (st.did k log).logs[i] = st.logs[i] := by simp [St.did, List.getElem_set_ne (fun e => hik e.symm)]
          rw [e]
          exact hR.same (h.reps i hi2 hi') hsz fun b hF hl => ⟨same b hl (by omega), (cold b hl).trans hF⟩ }

/-- What stands behind what does writes. -/
def St.done (st : St) (k : Nat) (d : Dn) : St :=
  { st with tr := st.tr ++ [d], since := st.since.set k (st.since[k]?.getD 0 + 1), fresh := st.fresh.set k true }

theorem traceCells_snoc (tr : List Dn) (bvs : List Value) (hl : bvs.length = tr.length) (d : Dn) (b : Value) : traceCells (tr ++ [d]) (bvs ++ [b]) = traceCells tr bvs ++ [.int .i64 (d.org : Int), .int .i64 (d.seq : Int), .string d.text, .string d.c.k.bs, .string d.c.word, .int .i64 (d.c.count : Int), b] := by
  unfold traceCells
  rw [List.zip_append hl.symm, List.flatMap_append]
  simp

theorem Mem.done (hR : Local R) {w w' : World} {c : Nat → Nat} {L : Lay} {st : St} (h : Mem R w c L st) {k : Nat} (hk : k < st.n) {d : Dn} {tv' bv : Value}
    (up : Upd [some L.wb, L.tv.ownBlock, L.sv.ownBlock, some L.fb] w w')
    (wbk' : w'.heap[L.wb]? = some (.cells ((L.C st.n).setIfInBounds 2 tv') 82 (0, 0)))
    (trow' : w'.ownsRow 0 91 7 tv' (st.tr.length + 1) (traceCells st.tr L.bvs ++ [.int .i64 (d.org : Int), .int .i64 (d.seq : Int), .string d.text, .string d.c.k.bs, .string d.c.word, .int .i64 (d.c.count : Int), bv]))
    (tvb : ∀ b, tv'.ownBlock = some b → L.tv.ownBlock = some b ∨ w.heap.size ≤ b)
    (bvn : NatsAt w' bv d.bef) (bvb : ∀ b, bv.ownBlock = some b → w.heap.size ≤ b ∧ b < w'.heap.size ∧ tv'.ownBlock ≠ some b) (bvl : d.bef.length ≤ maxLen)
    (srow' : w'.ownsRow 0 3 1 L.sv st.n (ints (st.since.set k (st.since[k]?.getD 0 + 1))))
    (fbk' : w'.heap[L.fb]? = some (.cells (L.FB.setIfInBounds k (.bool true)) 4 (0, 0))) :
    ∃ c' L', L'.wb = L.wb ∧ Mem R w' c' L' (st.done k d) ∧ Stp w c w' c' := by
  have hn := h.npos
  let c' : Nat → Nat := fun b => if b < w.heap.size then c b else if tv'.ownBlock = some b then 3 else if bv.ownBlock = some b then 9 else 0
  have cold : ∀ b, b < w.heap.size → c' b = c b := fun b hb => if_pos hb
  have same : ∀ b, b < w.heap.size → c b ≠ 1 → c b ≠ 3 → c b ≠ 5 → c b ≠ 6 → w'.heap[b]? = w.heap[b]? := fun b hb a1 a2 a3 a4 =>
    up.block b hb fun hm => by
      simp only [List.mem_cons, List.not_mem_nil, or_false, Option.some.injEq] at hm
      rcases hm with hm | hm | hm | hm
      · exact a1 (by rw [hm]; exact h.wbc)
      · exact a2 (h.tvc b hm.symm)
      · exact a3 (h.svc b hm.symm)
      · exact a4 (by rw [hm]; exact h.fbc)
  have owns : ∀ {e : TypeId} {size : Nat} {v : Value} {n : Nat} {xs : List Value} (col : Nat), w.ownsRow 0 e size v n xs → (∀ b, v.ownBlock = some b → c b = col) → col ≠ 1 → col ≠ 3 → col ≠ 5 → col ≠ 6 → w'.ownsRow 0 e size v n xs := fun col ho hc a1 a2 a3 a4 => by
    refine ⟨ho.1, ?_⟩
    rcases ho.2 with hn | ⟨g, cap, cur, rfl, hb, hg, rest⟩
    · exact .inl hn
    · have e := hc g rfl
      exact .inr ⟨g, cap, cur, rfl, hb, by rw [same g (Array.getElem?_eq_some_iff.1 hg).1 (by omega) (by omega) (by omega) (by omega)]; exact hg, rest⟩
  have clt : ∀ {e : TypeId} {size : Nat} {v : Value} {n : Nat} {xs : List Value} {col : Nat}, w.ownsRow 0 e size v n xs → (∀ b, v.ownBlock = some b → c b = col) → ∀ b, v.ownBlock = some b → c' b = col := fun ho hc b hb => by
    rw [cold b (ho.lt b hb).2]; exact hc b hb
  have wbl := (Array.getElem?_eq_some_iff.1 h.wbk).1
  have kbl := (Array.getElem?_eq_some_iff.1 h.kbk).1
  have fbl := (Array.getElem?_eq_some_iff.1 h.fbk).1
  have h0 : 0 < st.rbs.length := by rw [h.llen]; omega
  have lbl := World.block_lt_of_cell? w _ (h.lcell 0 h0)
  refine ⟨c', { L with tv := tv', bvs := L.bvs ++ [bv], FB := L.FB.setIfInBounds k (.bool true) }, rfl, ?_, ⟨up.os, up.tape, up.output, up.size, cold, fun b hb e => same b hb (by omega) (by omega) (by omega) (by omega)⟩⟩
  exact
    { npos := h.npos
      wbk := by
        have e : (L.C st.n).setIfInBounds 2 tv' = Lay.C { L with tv := tv', bvs := L.bvs ++ [bv], FB := L.FB.setIfInBounds k (.bool true) } st.n := by
          simp [Lay.C]
        rw [e] at wbk'; exact wbk'
      wbc := (cold _ wbl).trans h.wbc
      lbc := (cold _ lbl).trans h.lbc
      lcell := fun i hi => (World.cell?_of_block (a := ⟨L.lb, i, none⟩) (same L.lb lbl (by rw [h.lbc]; omega) (by rw [h.lbc]; omega) (by rw [h.lbc]; omega) (by rw [h.lbc]; omega))).trans (h.lcell i hi)
      llen := h.llen
      trow := by
        have e := traceCells_snoc st.tr L.bvs h.blen d bv
        show w'.ownsRow 0 _ 7 tv' (st.tr ++ [d]).length (traceCells (st.tr ++ [d]) (L.bvs ++ [bv]))
        rw [e, List.length_append]; exact trow'
      tvc := fun b hb => by
        by_cases hl : b < w.heap.size
        · rw [cold b hl]
          rcases tvb b hb with h1 | h1
          · exact h.tvc b h1
          · omega
        · show (if b < w.heap.size then c b else _) = _
          rw [if_neg hl, if_pos hb]
      blen := by simp [St.done, h.blen]
      bef := fun i hi hi' => by
        by_cases hold : i < st.tr.length
        · have hold' : i < L.bvs.length := by rw [h.blen]; exact hold
          obtain ⟨a1, a2, a3⟩ := h.bef i hold hold'
          have e1 : (L.bvs ++ [bv])[i] = L.bvs[i] := List.getElem_append_left hold'
          have e2 : (st.done k d).tr[i] = st.tr[i] := by simp [St.done, List.getElem_append_left hold]
          simp only [e1, e2]
          refine ⟨a1.same fun b hb hl => ?_, fun b hb => ?_, a3⟩
          · have e := (a2 b hb).1
            exact same b hl (by omega) (by omega) (by omega) (by omega)
          · have e := a2 b hb
            exact ⟨(cold b e.2).trans e.1, Nat.lt_of_lt_of_le e.2 up.size⟩
        · have hi2 : i < st.tr.length + 1 := by simpa [St.done] using hi
          obtain rfl : i = st.tr.length := by omega
          have e1 : (L.bvs ++ [bv])[st.tr.length]'hi' = bv := by simp [← h.blen]
          have e2 : (st.done k d).tr[st.tr.length]'hi = d := by simp [St.done]
          simp only [e1, e2]
          refine ⟨bvn, fun b hb => ⟨?_, (bvb b hb).2.1⟩, bvl⟩
          have hbb := bvb b hb
          show (if b < w.heap.size then c b else _) = _
          rw [if_neg (by omega), if_neg hbb.2.2, if_pos hb]
      kbk := (same L.kb kbl (by rw [h.kbc]; omega) (by rw [h.kbc]; omega) (by rw [h.kbc]; omega) (by rw [h.kbc]; omega)).trans h.kbk
      kbc := (cold _ kbl).trans h.kbc
      xlen := h.xlen
      xrow := fun i hi => by
        obtain ⟨u, a1, a2, a3⟩ := h.xrow i hi
        exact ⟨u, a1, owns (10 + i) a2 a3 (by omega) (by omega) (by omega) (by omega), clt a2 a3⟩
      slen := by simp [St.done, h.slen]
      srow := srow'
      svc := clt h.srow h.svc
      fbk := fbk'
      fbc := (cold _ fbl).trans h.fbc
      flen := by simp [St.done, h.flen]
      fcell := fun i hi => by
        have hi2 : i < st.fresh.length := by simpa [St.done] using hi
        have hf := h.fcell i hi2
        by_cases hik : i = k
        · subst hik
          have : i < L.FB.size := (Array.getElem?_eq_some_iff.1 hf).1
          simp [St.done, Array.getElem?_setIfInBounds_self_of_lt this]
        · simp only; rw [Array.getElem?_setIfInBounds_ne (fun e => hik e.symm), hf]
          simp [St.done, List.getElem_set_ne (fun e => hik e.symm)]
      orow := owns 7 h.orow h.ovc (by omega) (by omega) (by omega) (by omega)
      ovc := clt h.orow h.ovc
      marks := fun i hi hi' => by
        obtain ⟨a1, a2⟩ := h.marks i hi hi'
        refine ⟨?_, fun b hb => ⟨(cold b (a2 b hb).2).trans (a2 b hb).1, Nat.lt_of_lt_of_le (a2 b hb).2 up.size⟩⟩
        obtain ⟨p, cap, hv, hc⟩ := a1
        refine ⟨p, cap, hv, fun j hj => ?_⟩
        obtain ⟨g, hg, c0, c1, c2⟩ := hc j hj
        have hl := World.block_lt_of_cell? w _ c0
        have e := (a2 g (by rw [hv, hg]; rfl)).1
        have hs := same g hl (by omega) (by omega) (by omega) (by omega)
        exact ⟨g, hg, (World.cell?_of_block (a := ⟨g, _, none⟩) hs).trans c0, (World.cell?_of_block (a := ⟨g, _, none⟩) hs).trans c1, (World.cell?_of_block (a := ⟨g, _, none⟩) hs).trans c2⟩
      krow := owns 8 h.krow h.kvc (by omega) (by omega) (by omega) (by omega)
      kvc := clt h.krow h.kvc
      logn := h.logn
      reps := fun i hi hi' => hR.same (h.reps i hi hi') up.size fun b hF hl => ⟨same b hl (by omega) (by omega) (by omega) (by omega), (cold b hl).trans hF⟩ }

end Go.Proofs.YtckmppkdpnhodaaGreatDoor

namespace Go.Proofs.YtckmppkdpnhodaaGreatDoor
set_option linter.unusedVariables false
set_option linter.unusedSimpArgs false
open Go.RowKit Go.Proofs

section
variable {tr tr' : List Dn} {φ : Nat → Nat} {ids' : List Nat}

/-- Two traces of which the one's known ones are the other's, under other numbers. -/
structure Alike (tr tr' : List Dn) (φ : Nat → Nat) (ids' : List Nat) : Prop where
  cm : ∀ a ∈ ids', cmAt tr (φ a) = cmAt tr' a
  bef : ∀ a ∈ ids', ∀ y ∈ ids', inB (befAt tr (φ y)) (φ a) = inB (befAt tr' y) a

theorem Alike.stays (h : Alike tr tr' φ ids') {a : Nat} (ha : a ∈ ids') : staysB tr (ids'.map φ) (φ a) = staysB tr' ids' a := by
  unfold staysB
  rw [List.all_map, Bool.eq_iff_iff, List.all_eq_true, List.all_eq_true]
  have e : ∀ y ∈ ids', hits tr (φ a) (φ y) = hits tr' a y := fun y hy => by
    unfold hits; rw [h.cm a ha, h.cm y hy, h.bef a ha y hy]
  exact ⟨fun H y hy => by have := H y hy; simp only [Function.comp] at this; rwa [e y hy] at this, fun H y hy => by simp only [Function.comp]; rw [e y hy]; exact H y hy⟩

theorem Alike.number (h : Alike tr tr' φ ids') (word : ByteArray) : numberN tr (ids'.map φ) word = numberN tr' ids' word := by
  unfold numberN sumOf
  rw [List.map_map]
  congr 2
  refine List.map_congr_left fun a ha => ?_
  simp only [Function.comp, adds]
  rw [h.cm a ha, h.stays ha]

theorem Alike.has (h : Alike tr tr' φ ids') (k : Kd) (word : ByteArray) : hasB tr (ids'.map φ) k word = hasB tr' ids' k word := by
  unfold hasB
  rw [List.any_map, Bool.eq_iff_iff, List.any_eq_true, List.any_eq_true]
  have e : ∀ y ∈ ids', isThere tr (ids'.map φ) k word (φ y) = isThere tr' ids' k word y := fun y hy => by
    unfold isThere; rw [h.cm y hy, h.stays hy]
  exact ⟨fun ⟨y, hy, H⟩ => ⟨y, hy, by simp only [Function.comp] at H; rwa [e y hy] at H⟩, fun ⟨y, hy, H⟩ => ⟨y, hy, by simp only [Function.comp]; rwa [e y hy]⟩⟩

theorem Alike.words (h : Alike tr tr' φ ids') : wordsOf tr (ids'.map φ) = wordsOf tr' ids' := by
  unfold wordsOf
  rw [List.map_map]
  exact List.map_congr_left fun a ha => by simp only [Function.comp]; rw [h.cm a ha]

theorem Alike.lack (h : Alike tr tr' φ ids') (cm : Cm) : lacks tr (ids'.map φ) cm = lacks tr' ids' cm := by
  unfold lacks; rw [h.number, h.has]

theorem Alike.view (h : Alike tr tr' φ ids') {s : ByteArray} (hv : IsView tr' ids' s) : IsView tr (ids'.map φ) s := by
  obtain ⟨out, h1, h2, h3⟩ := hv
  refine ⟨out, h1, by rw [h.words]; exact h2, ?_⟩
  rw [h3]
  unfold viewL
  have e1 : itemLine tr (ids'.map φ) = itemLine tr' ids' := by funext x; unfold itemLine; rw [h.number]
  have e2 : ∀ k n, kindLine tr (ids'.map φ) k n = kindLine tr' ids' k n := fun k n => by funext x; unfold kindLine; rw [h.has]
  rw [e1, e2, e2]
end

/-- The text of a command. -/
def textOf (c : Cm) : ByteArray := c.k.bs ++ ⟨#[32]⟩ ++ c.word ++ (if c.k = .closed then ⟨#[32]⟩ ++ decN c.count else ByteArray.empty)

/-- What a command that was read is. -/
structure CmOk (c : Cm) : Prop where
  word : wordB c.word = true
  add : c.k = .closed → 1 ≤ c.count ∧ c.count ≤ 99
  other : c.k ≠ .closed → c.count = 0

/-- The trace of one replica's own commands. -/
def ownTr (me : Nat) (log : List Cm) : List Dn := log.mapIdx fun i c => ⟨me, i + 1, textOf c, c, List.range i⟩

theorem ownTr_get (me : Nat) (log : List Cm) (i : Nat) (h : i < log.length) : (ownTr me log)[i]? = some ⟨me, i + 1, textOf log[i], log[i], List.range i⟩ := by
  simp [ownTr, h]

/-- The places of a replica's own commands among the first m of the trace. -/
def ownTo (tr : List Dn) (k m : Nat) : List Nat := (List.range m).filter fun p => decide ((dnAt tr p).org = k)
def own (tr : List Dn) (k : Nat) : List Nat := ownTo tr k tr.length

theorem ownTo_succ (tr : List Dn) (k m : Nat) : ownTo tr k (m + 1) = ownTo tr k m ++ if (dnAt tr m).org = k then [m] else [] := by
  unfold ownTo
  rw [List.range_succ, List.filter_append]
  by_cases h : (dnAt tr m).org = k <;> simp [h]

theorem mem_ownTo {tr : List Dn} {k m p : Nat} : p ∈ ownTo tr k m ↔ p < m ∧ (dnAt tr p).org = k := by
  simp [ownTo]

theorem ownTo_nodup (tr : List Dn) (k m : Nat) : (ownTo tr k m).Nodup := List.Pairwise.filter _ List.nodup_range

/-- What stands at a place of the list: so many stand ahead. -/
theorem ownTo_at (tr : List Dn) (k : Nat) : ∀ (m i : Nat) (h : i < (ownTo tr k m).length), ownTo tr k (ownTo tr k m)[i] = (ownTo tr k m).take i
  | 0, i, h => by simp [ownTo] at h
  | m + 1, i, h => by
    have e := ownTo_succ tr k m
    by_cases hi : i < (ownTo tr k m).length
    · have := ownTo_at tr k m i hi
      have e1 : (ownTo tr k (m + 1))[i] = (ownTo tr k m)[i] := by
        simp only [e]; rw [List.getElem_append_left hi]
      rw [e1, this, e, List.take_append_of_le_length (by omega)]
    · by_cases ho : (dnAt tr m).org = k
      · rw [if_pos ho] at e
        have hl : (ownTo tr k (m + 1)).length = (ownTo tr k m).length + 1 := by rw [e]; simp
        obtain rfl : i = (ownTo tr k m).length := by omega
        have e1 : (ownTo tr k (m + 1))[(ownTo tr k m).length] = m := by
          simp only [e]; simp
        rw [e1, e]; simp
      · rw [if_neg ho, List.append_nil] at e
        have hl : (ownTo tr k (m + 1)).length = (ownTo tr k m).length := by rw [e]
        omega

theorem dnAt_snoc_lt {tr : List Dn} {d : Dn} {p : Nat} (h : p < tr.length) : dnAt (tr ++ [d]) p = dnAt tr p := by
  simp [dnAt, List.getElem?_append_left h]
theorem dnAt_snoc_self {tr : List Dn} {d : Dn} : dnAt (tr ++ [d]) tr.length = d := by
  simp [dnAt]

theorem ownTo_snoc {tr : List Dn} {d : Dn} (k : Nat) : ∀ (m : Nat), m ≤ tr.length → ownTo (tr ++ [d]) k m = ownTo tr k m
  | 0, _ => rfl
  | m + 1, h => by rw [ownTo_succ, ownTo_succ, ownTo_snoc k m (by omega), dnAt_snoc_lt (by omega)]

/-- The trace of replicas that hear nothing. -/
structure Deaf (n : Nat) (tr : List Dn) : Prop where
  org : ∀ p, p < tr.length → (dnAt tr p).org < n
  seq : ∀ p, p < tr.length → (dnAt tr p).seq = (ownTo tr (dnAt tr p).org p).length + 1
  bef : ∀ p, p < tr.length → (dnAt tr p).bef = ownTo tr (dnAt tr p).org p
  text : ∀ p, p < tr.length → (dnAt tr p).text = textOf (dnAt tr p).c
  ok : ∀ p, p < tr.length → CmOk (dnAt tr p).c

theorem Deaf.snoc {n : Nat} {tr : List Dn} (h : Deaf n tr) {k : Nat} (hk : k < n) {c : Cm} (hc : CmOk c) : Deaf n (tr ++ [⟨k, (own tr k).length + 1, textOf c, c, own tr k⟩]) := by
  have hs : ∀ p, p < (tr ++ [(⟨k, (own tr k).length + 1, textOf c, c, own tr k⟩ : Dn)]).length → p < tr.length ∨ p = tr.length := fun p hp => by
    simp only [List.length_append, List.length_singleton] at hp; omega
  constructor
  all_goals
    intro p hp
    rcases hs p hp with h1 | rfl
  · rw [dnAt_snoc_lt h1]; exact h.org p h1
  · rw [dnAt_snoc_self]; exact hk
  · rw [dnAt_snoc_lt h1, ownTo_snoc _ _ (by omega)]; exact h.seq p h1
  · rw [dnAt_snoc_self, ownTo_snoc _ _ (by omega)]; rfl
  · rw [dnAt_snoc_lt h1, ownTo_snoc _ _ (by omega)]; exact h.bef p h1
  · rw [dnAt_snoc_self, ownTo_snoc _ _ (by omega)]; rfl
  · rw [dnAt_snoc_lt h1]; exact h.text p h1
  · rw [dnAt_snoc_self]
  · rw [dnAt_snoc_lt h1]; exact h.ok p h1
  · rw [dnAt_snoc_self]; exact hc

theorem Deaf.nil (n : Nat) : Deaf n [] := by
  constructor <;> intro p hp <;> simp at hp

/-- The commands of a replica. -/
def logOf (tr : List Dn) (k : Nat) : List Cm := (own tr k).map fun p => (dnAt tr p).c

theorem ownTo_length_le (tr : List Dn) (k : Nat) : ∀ (m m' : Nat), m ≤ m' → (ownTo tr k m).length ≤ (ownTo tr k m').length
  | m, 0, h => by rw [show m = 0 by omega]; exact Nat.le_refl _
  | m, m' + 1, h => by
    by_cases e : m = m' + 1
    · rw [e]; exact Nat.le_refl _
    · have := ownTo_length_le tr k m m' (by omega)
      rw [ownTo_succ tr k m', List.length_append]; omega

theorem Deaf.told {n : Nat} {tr : List Dn} (h : Deaf n tr) (k : Nat) : Told tr (own tr k) := by
  refine ⟨ownTo_nodup _ _ _, fun p hp => (mem_ownTo.1 hp).1, fun p hp j hj hjp => ?_, fun i hi y hy => ?_⟩
  · obtain ⟨h1, h2⟩ := mem_ownTo.1 hp
    rintro ⟨e1, e2⟩
    rw [← dnAt_of hj] at e1 e2
    rw [h.seq j hj, h.seq p h1, e1] at e2
    have := ownTo_length_le tr (dnAt tr p).org (j + 1) p (by omega)
    rw [ownTo_succ, if_pos e1, List.length_append] at this
    simp at this
    omega
  · have hm := List.getElem_mem hi
    obtain ⟨h1, h2⟩ := mem_ownTo.1 hm
    rw [h.bef _ h1, h2] at hy
    have := ownTo_at tr k tr.length i hi
    unfold own at hy ⊢
    rwa [this] at hy

theorem Deaf.alike {n : Nat} {tr : List Dn} (h : Deaf n tr) (k : Nat) : Alike tr (ownTr k (logOf tr k)) (fun i => (own tr k)[i]?.getD 0) (List.range (logOf tr k).length) := by
  have hl : (logOf tr k).length = (own tr k).length := by simp [logOf]
  have hφ : ∀ a (ha : a < (own tr k).length), (own tr k)[a]?.getD 0 = (own tr k)[a] := fun a ha => by simp [ha]
  refine ⟨fun a ha => ?_, fun a ha y hy => ?_⟩
  · have ha' : a < (own tr k).length := by rw [← hl]; exact List.mem_range.1 ha
    show cmAt tr ((own tr k)[a]?.getD 0) = _
    rw [hφ a ha', cmAt_of (ownTr_get k _ a (by omega))]
    show (dnAt tr _).c = _
    simp [logOf]
  · have ha' : a < (own tr k).length := by rw [← hl]; exact List.mem_range.1 ha
    have hy' : y < (own tr k).length := by rw [← hl]; exact List.mem_range.1 hy
    show inB (befAt tr ((own tr k)[y]?.getD 0)) ((own tr k)[a]?.getD 0) = _
    rw [hφ a ha', hφ y hy', befAt_of (ownTr_get k _ y (by omega))]
    obtain ⟨h1, h2⟩ := mem_ownTo.1 (List.getElem_mem hy')
    have hb : befAt tr (own tr k)[y] = (own tr k).take y := by
      show (dnAt tr _).bef = _
      rw [h.bef _ h1, h2]; exact ownTo_at tr k tr.length y hy'
    rw [hb]
    unfold inB
    simp only [decide_eq_decide, List.mem_range]
    constructor
    · intro hm
      obtain ⟨i, hi, e⟩ := List.mem_iff_getElem.1 hm
      rw [List.getElem_take] at e
      have : i < y := by simp at hi; omega
      have := (List.getElem_inj (ownTo_nodup tr k tr.length) (i := i) (j := a) (h₀ := by simp at hi; unfold own at hi; omega) (h₁ := ha')).1 e
      omega
    · intro hay
      rw [List.mem_iff_getElem]
      exact ⟨a, by simp; omega, by rw [List.getElem_take]⟩

theorem own_eq_map (tr : List Dn) (k : Nat) : (List.range (logOf tr k).length).map (fun i => (own tr k)[i]?.getD 0) = own tr k := by
  apply List.ext_getElem
  · simp [logOf]
  · intro i h1 h2
    simp [h2]

/-- The list of a replica's own commands, as the reader is told it. -/
def ownOps (me : Nat) (log : List Cm) : List Value := (List.range log.length).flatMap fun i => [.int .i64 (me : Int), .int .i64 ((i + 1 : Nat) : Int), .string (textOf (log[i]?.getD cm0))]

theorem flatMap_same {α β : Type} {f g : α → List β} : ∀ (l : List α), (∀ a ∈ l, f a = g a) → l.flatMap f = l.flatMap g
  | [], _ => rfl
  | a :: l, h => by rw [List.flatMap_cons, List.flatMap_cons, h a (List.mem_cons_self ..), flatMap_same l fun b hb => h b (List.mem_cons_of_mem _ hb)]

theorem Deaf.ops {n : Nat} {tr : List Dn} (h : Deaf n tr) (k : Nat) : opCells tr (own tr k) = ownOps k (logOf tr k) := by
  unfold opCells ownOps
  conv => lhs; rw [← own_eq_map tr k]
  rw [List.flatMap_map]
  have hl : (logOf tr k).length = (own tr k).length := by simp [logOf]
  refine flatMap_same _ fun i hi => ?_
  have hi' : i < (own tr k).length := by rw [← hl]; exact List.mem_range.1 hi
  obtain ⟨h1, h2⟩ := mem_ownTo.1 (List.getElem_mem hi')
  have e1 : (own tr k)[i]?.getD 0 = (own tr k)[i] := by simp [hi']
  have e2 : (logOf tr k)[i]?.getD cm0 = (dnAt tr (own tr k)[i]).c := by simp [logOf, hi']
  have e3 : (ownTo tr k (own tr k)[i]).length = i := by
    rw [show ownTo tr k (own tr k)[i] = (own tr k).take i from ownTo_at tr k tr.length i hi']; simp; omega
  rw [e1, e2, h2, h.seq _ h1, h2, e3, h.text _ h1]

end Go.Proofs.YtckmppkdpnhodaaGreatDoor

namespace Go.Proofs.YtckmppkdpnhodaaGreatDoor
set_option linter.unusedVariables false
set_option linter.unusedSimpArgs false
open Go.RowKit

section
variable {P : Program} (w : World)

end

end Go.Proofs.YtckmppkdpnhodaaGreatDoor

namespace Go.Proofs.YtckmppkdpnhodaaGreatDoor
set_option linter.unusedVariables false
set_option linter.unusedSimpArgs false
open Go.RowKit Go.Proofs

variable {R : World → Nat → Nat → Nat → List Cm → (Nat → Prop) → Prop}

attribute [local go_sem ↓] Go.wp_at_zero Go.wp_at_succ

end Go.Proofs.YtckmppkdpnhodaaGreatDoor
