/-
  begun: the world in memory, made. Contract of cartellaw.begun.
-/
import Derived.Test.YtckmppkdpnhodaaGreatDoorT16
namespace Go.Proofs.YtckmppkdpnhodaaGreatDoor
set_option linter.unusedVariables false
set_option linter.unusedSimpArgs false
open Go.RowKit Go.Proofs

variable {R : World → Nat → Nat → Nat → List Cm → (Nat → Prop) → Prop}

attribute [local go_sem ↓] Go.wp_at_zero Go.wp_at_succ

/-- 'x.f = append(x.f, v)', x.f being the cell o of the block wb. -/
structure Pushed (W W' : World) (wb o : Nat) (C : Array Value) (T e : TypeId) (v v' : Value) (n : Nat) (xs : List Value) (x : Value) : Prop where
  up : Upd [some wb, v.ownBlock] W W'
  wbk : W'.heap[wb]? = some (.cells (C.setIfInBounds o v') T (0, 0))
  row : W'.ownsRow 0 e 1 v' (n + 1) (xs ++ [x])
  at_ : ∀ b, v'.ownBlock = some b → v.ownBlock = some b ∨ W.heap.size ≤ b
  own : v'.ownBlock ≠ some wb

theorem pushed {W w' : World} {wb o : Nat} {C : Array Value} {T e : TypeId} {v : Value} {n : Nat} {xs : List Value} {x : Value} {g cap : Nat} {oc : Obj}
    (hwb : W.heap[wb]? = some (.cells C T (0, 0))) (hv : v.ownBlock ≠ some wb)
    (hown : w'.ownsRow 0 e 1 (.slice (some ⟨g, 0, none⟩) (n + 1) cap) (n + 1) (xs ++ [x])) (hgrow : (W.alloc oc).grownBy w' v.ownBlock) (hat : v.ownBlock = some g ∨ g = W.heap.size + 1) :
    Pushed W (w'.setCell ⟨wb, o, none⟩ (.slice (some ⟨g, 0, none⟩) (n + 1) cap)) wb o C T e v (.slice (some ⟨g, 0, none⟩) (n + 1) cap) n xs x ∧ w'.heap[wb]? = some (.cells C T (0, 0)) := by
  have hwl := (Array.getElem?_eq_some_iff.1 hwb).1
  have u1 : Upd [v.ownBlock] W w' := ((Upd.refl _ W).alloc _).grown hgrow fun b hb => .inl (by simp [hb])
  have hw' : w'.heap[wb]? = some (.cells C T (0, 0)) := (u1.block wb hwl (by simpa using fun e => hv e.symm)).trans hwb
  have hgw : g ≠ wb := by
    rcases hat with h | h
    · exact fun e => hv (by rw [h, e])
    · omega
  refine ⟨⟨(u1.mono fun b hb => by simp at hb; simp [hb]).setCell (.inl (by simp)) _, heap_setCell_same hw' _, owns_setCell_other hown (fun b hb => by simp only [Value.ownBlock, Option.some.injEq] at hb; exact hb ▸ hgw) _, fun b hb => ?_, by simpa [Value.ownBlock] using hgw⟩, hw'⟩
  simp only [Value.ownBlock, Option.some.injEq] at hb
  subst hb
  rcases hat with h | h
  · exact .inl h
  · exact .inr (by omega)

/-- The world's own cells while it is made. -/
def begC (n : Nat) (lv kv sv fv : Value) : Array Value :=
  #[.int .i64 (n : Int), lv, .slice none 0 0, kv, .slice none 0 0, sv, fv, .bool false, .slice none 0 0, .slice none 0 0, .slice none 0 0, .slice none 0 0, .slice none 0 0, .slice none 0 0]

structure Beg (R : World → Nat → Nat → Nat → List Cm → (Nat → Prop) → Prop) (w W : World) (c : Nat → Nat) (wb n i : Nat) (rbs : List Nat) (lv kv sv fv : Value) : Prop where
  bel : Below w.heap.size w W
  old : ∀ b, b < w.heap.size → c b = 0
  wbk : W.heap[wb]? = some (.cells (begC n lv kv sv fv) 82 (0, 0))
  wbc : c wb = 1
  wbn : w.heap.size ≤ wb
  len : rbs.length = i
  lrow : W.ownsRow 0 38 1 lv i (rbs.map fun b => .pointer (some ⟨b, 0, none⟩))
  lvc : ∀ b, lv.ownBlock = some b → c b = 2
  krow : W.ownsRow 0 75 1 kv i (List.replicate i (.slice none 0 0))
  kvc : ∀ b, kv.ownBlock = some b → c b = 4
  srow : W.ownsRow 0 3 1 sv i (List.replicate i (.int .i64 0))
  svc : ∀ b, sv.ownBlock = some b → c b = 5
  frow : W.ownsRow 0 4 1 fv i (List.replicate i (.bool true))
  fvc : ∀ b, fv.ownBlock = some b → c b = 6
  reps : ∀ j (h : j < rbs.length), R W rbs[j] n j [] fun b => c b = 20 + j

theorem Beg.step (hR : Local R) {w W W1 W2 W3 W4 W5 : World} {c : Nat → Nat} {wb n i rb : Nat} {rbs : List Nat} {lv kv sv fv lv' kv' sv' fv' : Value} (h : Beg R w W c wb n i rbs lv kv sv fv)
    (hb : Below W.heap.size W W1) (hr : R W1 rb n i [] fun b => W.heap.size ≤ b)
    (p1 : Pushed W1 W2 wb 1 (begC n lv kv sv fv) 82 38 lv lv' i (rbs.map fun b => .pointer (some ⟨b, 0, none⟩)) (.pointer (some ⟨rb, 0, none⟩)))
    (p2 : Pushed W2 W3 wb 3 (begC n lv' kv sv fv) 82 75 kv kv' i (List.replicate i (.slice none 0 0)) (.slice none 0 0))
    (p3 : Pushed W3 W4 wb 5 (begC n lv' kv' sv fv) 82 3 sv sv' i (List.replicate i (.int .i64 0)) (.int .i64 0))
    (p4 : Pushed W4 W5 wb 6 (begC n lv' kv' sv' fv) 82 4 fv fv' i (List.replicate i (.bool true)) (.bool true)) :
    ∃ c', Beg R w W5 c' wb n (i + 1) (rbs ++ [rb]) lv' kv' sv' fv' := by
  have z1 := hb.size
  have z2 := p1.up.size
  have z3 := p2.up.size
  have z4 := p3.up.size
  have z5 := p4.up.size
  have z0 := h.bel.size
  have wbl := (Array.getElem?_eq_some_iff.1 h.wbk).1
  have lvl : ∀ b, lv.ownBlock = some b → b < W.heap.size := fun b hb => (h.lrow.lt b hb).2
  have kvl : ∀ b, kv.ownBlock = some b → b < W.heap.size := fun b hb => (h.krow.lt b hb).2
  have svl : ∀ b, sv.ownBlock = some b → b < W.heap.size := fun b hb => (h.srow.lt b hb).2
  have fvl : ∀ b, fv.ownBlock = some b → b < W.heap.size := fun b hb => (h.frow.lt b hb).2
  have l2 : ∀ b, lv'.ownBlock = some b → b < W2.heap.size := fun b hb => (p1.row.lt b hb).2
  have l3 : ∀ b, kv'.ownBlock = some b → b < W3.heap.size := fun b hb => (p2.row.lt b hb).2
  have l4 : ∀ b, sv'.ownBlock = some b → b < W4.heap.size := fun b hb => (p3.row.lt b hb).2
  have l5 : ∀ b, fv'.ownBlock = some b → b < W5.heap.size := fun b hb => (p4.row.lt b hb).2
  let c' : Nat → Nat := fun b => if b < W.heap.size then c b else if b < W1.heap.size then 20 + i else if lv'.ownBlock = some b then 2 else if kv'.ownBlock = some b then 4 else if sv'.ownBlock = some b then 5 else if fv'.ownBlock = some b then 6 else 0
  have cold : ∀ b, b < W.heap.size → c' b = c b := fun b hb => if_pos hb
  have ups : ∀ b, b < W1.heap.size → (b < W.heap.size → c b ≠ 1 ∧ c b ≠ 2 ∧ c b ≠ 4 ∧ c b ≠ 5 ∧ c b ≠ 6) → W5.heap[b]? = W1.heap[b]? := fun b hl hc => by
    have hnot : ∀ (v : Value) (x : Nat), (∀ b, v.ownBlock = some b → b < W.heap.size) → (∀ b, v.ownBlock = some b → c b = x) → (x = 2 ∨ x = 4 ∨ x = 5 ∨ x = 6) → some b ∉ [some wb, v.ownBlock] := fun v x hv1 hv2 hx hm => by
      simp only [List.mem_cons, List.not_mem_nil, or_false, Option.some.injEq] at hm
      rcases hm with rfl | hm
      · have := (hc wbl).1; have := h.wbc; omega
      · have := hc (hv1 b hm.symm); have := hv2 b hm.symm; omega
    rw [p4.up.block b (by omega) (hnot fv 6 fvl h.fvc (by omega)), p3.up.block b (by omega) (hnot sv 5 svl h.svc (by omega)), p2.up.block b (by omega) (hnot kv 4 kvl h.kvc (by omega)), p1.up.block b (by omega) (hnot lv 2 lvl h.lvc (by omega))]
  have dl : ∀ b, lv'.ownBlock = some b → (b < W.heap.size ∧ c b = 2) ∨ (W1.heap.size ≤ b ∧ b < W2.heap.size) := fun b hb => by
    rcases p1.at_ b hb with e | e
    · exact .inl ⟨lvl b e, h.lvc b e⟩
    · exact .inr ⟨e, l2 b hb⟩
  have dk : ∀ b, kv'.ownBlock = some b → (b < W.heap.size ∧ c b = 4) ∨ (W2.heap.size ≤ b ∧ b < W3.heap.size) := fun b hb => by
    rcases p2.at_ b hb with e | e
    · exact .inl ⟨kvl b e, h.kvc b e⟩
    · exact .inr ⟨e, l3 b hb⟩
  have ds : ∀ b, sv'.ownBlock = some b → (b < W.heap.size ∧ c b = 5) ∨ (W3.heap.size ≤ b ∧ b < W4.heap.size) := fun b hb => by
    rcases p3.at_ b hb with e | e
    · exact .inl ⟨svl b e, h.svc b e⟩
    · exact .inr ⟨e, l4 b hb⟩
  have df : ∀ b, fv'.ownBlock = some b → (b < W.heap.size ∧ c b = 6) ∨ (W4.heap.size ≤ b ∧ b < W5.heap.size) := fun b hb => by
    rcases p4.at_ b hb with e | e
    · exact .inl ⟨fvl b e, h.fvc b e⟩
    · exact .inr ⟨e, l5 b hb⟩
  have skip : ∀ (v' v : Value), v'.ownBlock ≠ some wb → (∀ b, v'.ownBlock = some b → v.ownBlock ≠ some b) → ∀ b, v'.ownBlock = some b → some b ∉ [some wb, v.ownBlock] := fun v' v h1 h2 b hb hm => by
    simp only [List.mem_cons, List.not_mem_nil, or_false, Option.some.injEq] at hm
    rcases hm with rfl | hm
    · exact h1 hb
    · exact h2 b hb hm.symm
  have nlk : ∀ b, lv'.ownBlock = some b → kv.ownBlock ≠ some b := fun b hb e => by have := dl b hb; have := kvl b e; have := h.kvc b e; omega
  have nls : ∀ b, lv'.ownBlock = some b → sv.ownBlock ≠ some b := fun b hb e => by have := dl b hb; have := svl b e; have := h.svc b e; omega
  have nlf : ∀ b, lv'.ownBlock = some b → fv.ownBlock ≠ some b := fun b hb e => by have := dl b hb; have := fvl b e; have := h.fvc b e; omega
  have nks : ∀ b, kv'.ownBlock = some b → sv.ownBlock ≠ some b := fun b hb e => by have := dk b hb; have := svl b e; have := h.svc b e; omega
  have nkf : ∀ b, kv'.ownBlock = some b → fv.ownBlock ≠ some b := fun b hb e => by have := dk b hb; have := fvl b e; have := h.fvc b e; omega
  have nsf : ∀ b, sv'.ownBlock = some b → fv.ownBlock ≠ some b := fun b hb e => by have := ds b hb; have := fvl b e; have := h.fvc b e; omega
  refine ⟨c', ?_⟩
  exact
    { bel := by
        refine ⟨?_, ?_, ?_, by omega, fun b hb' => ?_⟩
        · rw [p4.up.os, p3.up.os, p2.up.os, p1.up.os, hb.os, h.bel.os]
        · rw [p4.up.tape, p3.up.tape, p2.up.tape, p1.up.tape, hb.tape, h.bel.tape]
        · rw [p4.up.output, p3.up.output, p2.up.output, p1.up.output, hb.output, h.bel.output]
        · have h0 := h.old b hb'
          rw [ups b (by omega) (fun _ => by omega), hb.block b (by omega), h.bel.block b hb']
      old := fun b hb' => (cold b (by omega)).trans (h.old b hb')
      wbk := by
        have := p4.wbk
        simpa [begC] using this
      wbc := (cold _ wbl).trans h.wbc
      wbn := h.wbn
      len := by simp [h.len]
      lrow := by
        have := p4.up.owns (p3.up.owns (p2.up.owns p1.row (skip lv' kv p1.own nlk)) (skip lv' sv p1.own nls)) (skip lv' fv p1.own nlf)
        simpa using this
      lvc := fun b hb' => by
        rcases dl b hb' with e | e
        · exact (cold b e.1).trans e.2
        · show (if b < W.heap.size then c b else _) = _
          rw [if_neg (by omega), if_neg (by omega), if_pos hb']
      krow := by
        have := p4.up.owns (p3.up.owns p2.row (skip kv' sv p2.own nks)) (skip kv' fv p2.own nkf)
        rwa [List.replicate_succ'] 
      kvc := fun b hb' => by
        rcases dk b hb' with e | e
        · exact (cold b e.1).trans e.2
        · show (if b < W.heap.size then c b else _) = _
          rw [if_neg (by omega), if_neg (by omega), if_neg (fun e' => by have := dl b e'; omega), if_pos hb']
      srow := by
        have := p4.up.owns p3.row (skip sv' fv p3.own nsf)
        rwa [List.replicate_succ']
      svc := fun b hb' => by
        rcases ds b hb' with e | e
        · exact (cold b e.1).trans e.2
        · show (if b < W.heap.size then c b else _) = _
          rw [if_neg (by omega), if_neg (by omega), if_neg (fun e' => by have := dl b e'; omega), if_neg (fun e' => by have := dk b e'; omega), if_pos hb']
      frow := by
        have := p4.row
        rwa [List.replicate_succ']
      fvc := fun b hb' => by
        rcases df b hb' with e | e
        · exact (cold b e.1).trans e.2
        · show (if b < W.heap.size then c b else _) = _
          rw [if_neg (by omega), if_neg (by omega), if_neg (fun e' => by have := dl b e'; omega), if_neg (fun e' => by have := dk b e'; omega), if_neg (fun e' => by have := ds b e'; omega), if_pos hb']
      reps := fun j hj => by
        by_cases hji : j < rbs.length
        · have e : (rbs ++ [rb])[j] = rbs[j] := List.getElem_append_left hji
          rw [e]
          refine hR.same (h.reps j hji) (by omega) fun b hF hl => ⟨?_, (cold b hl).trans hF⟩
          rw [ups b (by omega) (fun _ => by omega), hb.block b hl]
        · have hj2 : j < rbs.length + 1 := by simpa using hj
          obtain rfl : j = rbs.length := by omega
          have e : (rbs ++ [rb])[rbs.length] = rb := by simp
          rw [e, h.len]
          refine hR.same hr (by omega) fun b hF hl => ⟨ups b hl (fun hl' => by omega), ?_⟩
          show (if b < W.heap.size then c b else _) = _
          rw [if_neg (by omega), if_pos hl] }

/-- What stands when all is made. -/
def St.begun (n : Nat) (rbs : List Nat) : St :=
  { n := n, rbs := rbs, logs := List.replicate n [], tr := [], xss := List.replicate n [], since := List.replicate n 0, fresh := List.replicate n true, bk := [] }

theorem Beg.mem {w W : World} {c : Nat → Nat} {wb n : Nat} {rbs : List Nat} {lv kv sv fv : Value} (h : Beg R w W c wb n n rbs lv kv sv fv) (hn : 2 ≤ n ∧ n ≤ 5) :
    ∃ L, L.wb = wb ∧ Mem R W c L (St.begun n rbs) := by
  rcases id h.lrow.2 with ⟨_, h0⟩ | ⟨lb, capl, curl, rfl, -, hlb, -⟩
  · omega
  rcases id h.krow.2 with ⟨_, h0⟩ | ⟨kb, capk, curk, rfl, -, hkb, hk1, hk2, hk3, hk4⟩
  · omega
  rcases id h.frow.2 with ⟨_, h0⟩ | ⟨fb, capf, curf, rfl, -, hfb, hf1, hf2, hf3, hf4⟩
  · omega
  refine ⟨{ wb := wb, lb := lb, capl := capl, tv := .slice none 0 0, bvs := [], kb := kb, capk := capk, KB := curk, sv := sv, fb := fb, capf := capf, FB := curf, osv := .slice none 0 0, kov := .slice none 0 0, us := [] }, rfl, ?_⟩
  exact
    { npos := hn
      wbk := h.wbk
      wbc := h.wbc
      lbc := h.lvc lb rfl
      lcell := fun i hi => by
        have := h.lrow.cells (g := lb) rfl i (.pointer (some ⟨rbs[i], 0, none⟩)) (by simp [show i < rbs.length from hi])
        rwa [Addr.add_mid, Nat.zero_add] at this
      llen := h.len
      trow := World.ownsRow_nil ..
      tvc := fun b hb => by simp [Value.ownBlock] at hb
      blen := rfl
      bef := fun i hi _ => by simp [St.begun] at hi
      kbk := hkb
      kbc := h.kvc kb rfl
      xlen := by simp [St.begun]
      xrow := fun i hi => by
        have hi' : i < n := by simpa [St.begun] using hi
        refine ⟨.slice none 0 0, ?_, ?_, fun b hb => by simp [Value.ownBlock] at hb⟩
        · have := h.krow.cells (g := kb) rfl i (.slice none 0 0) (by simp [hi'])
          rw [Addr.add_mid, Nat.zero_add, cell_of_heap hkb] at this
          exact this
        · have e : (St.begun n rbs).xss[i] = [] := by simp [St.begun]
          rw [e]
          exact World.ownsRow_nil ..
      slen := by simp [St.begun]
      srow := by
        have := h.srow
        simpa [St.begun, ints] using this
      svc := h.svc
      fbk := hfb
      fbc := h.fvc fb rfl
      flen := by simp [St.begun]
      fcell := fun i hi => by
        have hi' : i < n := by simpa [St.begun] using hi
        have := h.frow.cells (g := fb) rfl i (.bool true) (by simp [hi'])
        rw [Addr.add_mid, Nat.zero_add, cell_of_heap hfb] at this
        simpa [St.begun] using this
      orow := World.ownsRow_nil ..
      ovc := fun b hb => by simp [Value.ownBlock] at hb
      marks := fun i hi _ => by simp [St.begun] at hi
      krow := World.ownsRow_nil ..
      kvc := fun b hb => by simp [Value.ownBlock] at hb
      logn := by simp [St.begun]
      reps := fun i hi hi' => by
        have e : (St.begun n rbs).logs[i] = [] := by simp [St.begun]
        rw [e]
        exact h.reps i hi' }

end Go.Proofs.YtckmppkdpnhodaaGreatDoor

namespace Go.Proofs.YtckmppkdpnhodaaGreatDoor
set_option linter.unusedVariables false
set_option linter.unusedSimpArgs false
open Go.RowKit Go.Proofs

variable {R : World → Nat → Nat → Nat → List Cm → (Nat → Prop) → Prop}

attribute [local go_sem ↓] Go.wp_at_zero Go.wp_at_succ

theorem Tryz.info_rep : (Tryz.prog.info? 38).map (fun i => (i.zero, i.size, i.bytes)) = some (some (.pointer none), 1, 8) := by kernel_rfl
theorem Tryz.info_ints : (Tryz.prog.info? 75).map (fun i => (i.zero, i.size, i.bytes)) = some (some (.slice none 0 0), 1, 24) := by kernel_rfl
theorem Tryz.info_bool : (Tryz.prog.info? 4).map (fun i => (i.zero, i.size, i.bytes)) = some (some (.bool false), 1, 1) := by kernel_rfl

/-- What New does. -/
def NewDoes (R : World → Nat → Nat → Nat → List Cm → (Nat → Prop) → Prop) (n : Nat) : Prop :=
  ∀ (i : Nat) (W : World), i < n → Calls Tryz.prog 31 #[.int .i64 (i : Int), .int .i64 (n : Int)] W fun e w' => ∃ rb, e = .returned (.tuple #[.pointer (some ⟨rb, 0, none⟩), .int .i64 0]) ∧ Below W.heap.size W w' ∧ R w' rb n i [] fun b => W.heap.size ≤ b

set_option maxRecDepth 100000 in
set_option maxHeartbeats 4000000 in
theorem begun_any (hR : Local R) {n : Nat} (hn : 2 ≤ n ∧ n ≤ 5) (hNew : NewDoes R n) (w : World) :
    Calls Tryz.prog 13 #[.int .i64 (n : Int), .bool false] w fun e w' => ∃ c L rbs, e = .returned (.pointer (some ⟨L.wb, 0, none⟩)) ∧ Mem R w' c L (St.begun n rbs) ∧ Below w.heap.size w w' ∧ ∀ b, b < w.heap.size → c b = 0 := by
  have HN : Hid (NewDoes R n) := hNew
  clear hNew
  have HHN : Hid (2 ≤ n ∧ n ≤ 5) := hn
  have hn5 : n ≤ 5 := hn.2
  obtain ⟨i0, hi0, ha0, ha1, ha2⟩ := info_parts Tryz.info_rep
  obtain ⟨i1, hi1, hb0, hb1, hb2⟩ := info_parts Tryz.info_ints
  obtain ⟨i2, hi2, hc0, hc1, hc2⟩ := info_parts Tryz.info_int
  obtain ⟨i3, hi3, hd0, hd1, hd2⟩ := info_parts Tryz.info_bool
  clear hn
  go_enter Tryz.func13, Tryz.ntmps13
  go_wp2_with fail
  go_loopw [6] (fun v wr => ∃ (i : Nat) (c : Nat → Nat) (rbs : List Nat) (lv kv sv fv : Value), i ≤ n ∧ v = .int .i64 i ∧ Hid (Beg R w wr c w.heap.size n i rbs lv kv sv fv)) (fun v _ => n - (intOf v).toNat)
  case atStart =>
    refine ⟨0, fun b => if b = w.heap.size then 1 else 0, [], .slice none 0 0, .slice none 0 0, .slice none 0 0, .slice none 0 0, Nat.zero_le _, rfl, ?_⟩
    exact
      { bel := (Below.refl _ w).alloc (Nat.le_refl _) _
        old := fun b hb => if_neg (by omega)
        wbk := heap_alloc_new w _
        wbc := if_pos rfl
        wbn := Nat.le_refl _
        len := rfl
        lrow := World.ownsRow_nil ..
        lvc := fun b hb => by simp [Value.ownBlock] at hb
        krow := World.ownsRow_nil ..
        kvc := fun b hb => by simp [Value.ownBlock] at hb
        srow := World.ownsRow_nil ..
        svc := fun b hb => by simp [Value.ownBlock] at hb
        frow := World.ownsRow_nil ..
        fvc := fun b hb => by simp [Value.ownBlock] at hb
        reps := fun j hj => by simp at hj }
  case round =>
    obtain ⟨i, c, rbs, lv, kv, sv, fv, hi, rfl, hB⟩ := hrel
    by_cases hlt : i < n
    · have HNW : Hid (Calls Tryz.prog 31 #[.int .i64 (i : Int), .int .i64 (n : Int)] wr fun e w' => ∃ rb, e = .returned (.tuple #[.pointer (some ⟨rb, 0, none⟩), .int .i64 0]) ∧ Below wr.heap.size wr w' ∧ R w' rb n i [] fun b => wr.heap.size ≤ b) := HN.out i wr hlt
      generalize hwb : w.heap.size = wb at *
      have HWB : Hid (w.heap.size = wb) := hwb
      clear hwb
      have hBo := hB.out
      have nl : lv.ownBlock ≠ some wb := fun e => by have := hBo.lvc _ e; have := hBo.wbc; omega
      have nk : kv.ownBlock ≠ some wb := fun e => by have := hBo.kvc _ e; have := hBo.wbc; omega
      have ns : sv.ownBlock ≠ some wb := fun e => by have := hBo.svc _ e; have := hBo.wbc; omega
      have nf : fv.ownBlock ≠ some wb := fun e => by have := hBo.fvc _ e; have := hBo.wbc; omega
      have hlk : ∀ b, kv.ownBlock = some b → some b ∉ [some wb, lv.ownBlock] := fun b hb hm => by
        simp only [List.mem_cons, List.not_mem_nil, or_false, Option.some.injEq] at hm
        rcases hm with rfl | hm
        · exact nk hb
        · have := hBo.kvc b hb; have := hBo.lvc b hm.symm; omega
      have hls : ∀ b, sv.ownBlock = some b → some b ∉ [some wb, lv.ownBlock] := fun b hb hm => by
        simp only [List.mem_cons, List.not_mem_nil, or_false, Option.some.injEq] at hm
        rcases hm with rfl | hm
        · exact ns hb
        · have := hBo.svc b hb; have := hBo.lvc b hm.symm; omega
      have hlf : ∀ b, fv.ownBlock = some b → some b ∉ [some wb, lv.ownBlock] := fun b hb hm => by
        simp only [List.mem_cons, List.not_mem_nil, or_false, Option.some.injEq] at hm
        rcases hm with rfl | hm
        · exact nf hb
        · have := hBo.fvc b hb; have := hBo.lvc b hm.symm; omega
      have hks : ∀ b, sv.ownBlock = some b → some b ∉ [some wb, kv.ownBlock] := fun b hb hm => by
        simp only [List.mem_cons, List.not_mem_nil, or_false, Option.some.injEq] at hm
        rcases hm with rfl | hm
        · exact ns hb
        · have := hBo.svc b hb; have := hBo.kvc b hm.symm; omega
      have hkf : ∀ b, fv.ownBlock = some b → some b ∉ [some wb, kv.ownBlock] := fun b hb hm => by
        simp only [List.mem_cons, List.not_mem_nil, or_false, Option.some.injEq] at hm
        rcases hm with rfl | hm
        · exact nf hb
        · have := hBo.fvc b hb; have := hBo.kvc b hm.symm; omega
      have hsf : ∀ b, fv.ownBlock = some b → some b ∉ [some wb, sv.ownBlock] := fun b hb hm => by
        simp only [List.mem_cons, List.not_mem_nil, or_false, Option.some.injEq] at hm
        rcases hm with rfl | hm
        · exact nf hb
        · have := hBo.fvc b hb; have := hBo.svc b hm.symm; omega
      have rwb := hBo.wbk
      have rl := hBo.lrow
      have rk := hBo.krow
      have rs := hBo.srow
      have rf := hBo.frow
      clear hBo
      have up0 : ∀ w1, Below wr.heap.size wr w1 → w1.heap[wb]? = some (.cells (begC n lv kv sv fv) 82 (0, 0)) ∧ w1.ownsRow 0 38 1 lv i (rbs.map fun b => .pointer (some ⟨b, 0, none⟩)) ∧ w1.ownsRow 0 75 1 kv i (List.replicate i (.slice none 0 0)) ∧ w1.ownsRow 0 3 1 sv i (List.replicate i (.int .i64 0)) ∧ w1.ownsRow 0 4 1 fv i (List.replicate i (.bool true)) := fun w1 hb => by
        have u := Upd.of_below (S := []) hb
        exact ⟨(hb.block wb (Array.getElem?_eq_some_iff.1 rwb).1).trans rwb, u.owns rl (by simp), u.owns rk (by simp), u.owns rs (by simp), u.owns rf (by simp)⟩
      have UP0 : Hid (∀ w1, Below wr.heap.size wr w1 → w1.heap[wb]? = some (.cells (begC n lv kv sv fv) 82 (0, 0)) ∧ w1.ownsRow 0 38 1 lv i (rbs.map fun b => .pointer (some ⟨b, 0, none⟩)) ∧ w1.ownsRow 0 75 1 kv i (List.replicate i (.slice none 0 0)) ∧ w1.ownsRow 0 3 1 sv i (List.replicate i (.int .i64 0)) ∧ w1.ownsRow 0 4 1 fv i (List.replicate i (.bool true))) := up0
      clear up0 rwb rl rk rs rf
      have at4 : ∀ {W : World} {C : Array Value}, W.heap[wb]? = some (.cells C 82 (0, 0)) → ∀ o v, C[o]? = some v → W.cell? ⟨wb, o, none⟩ = some v := fun hW o v hv => by rw [cell_of_heap hW]; exact hv
      have ln : ∀ {W : World} {C : Array Value} {T : TypeId}, W.heap[wb]? = some (.cells C T (0, 0)) → wb < W.heap.size := fun hW => (Array.getElem?_eq_some_iff.1 hW).1
      have AT4 : Hid (∀ {W : World} {C : Array Value}, W.heap[wb]? = some (.cells C 82 (0, 0)) → ∀ o v, C[o]? = some v → W.cell? ⟨wb, o, none⟩ = some v) := at4
      have LN : Hid (∀ {W : World} {C : Array Value} {T : TypeId}, W.heap[wb]? = some (.cells C T (0, 0)) → wb < W.heap.size) := ln
      clear at4 ln
      go_wp2_with (first
        | (go_at_call 31; refine HNW.out.mono ?_; rintro e w1 ⟨rb, rfl, hb1', hrr⟩; obtain ⟨q1, rl, rk, rs, rf⟩ := UP0.out w1 hb1'; have l1 := LN.out q1; have c11 := AT4.out q1 1 lv rfl)
        | (at_builtin; refine wpList_append_lies _ rfl _ _ 76 rfl 0 4 i3 (.bool false) 1 1 Tryz.underlying76 hi3 hd0 hd1 hd2 rfl (by decide) fv i (List.replicate i (.bool true)) (by rfl) (rf4.alloc _) ⟨w4.heap.size, 0, none⟩ 1 1 [.bool true] (by rfl) rfl (World.news_of_block (by simpa using heap_alloc_new (w4.setCell ⟨wb, 5, none⟩ (.slice (some ⟨g4, 0, none⟩) (i + 1) cap4)) _)) (by simp [Value.oneCell']) (by decide) (by unfold maxLen; omega) (by omega) (by omega) (w4.heap.size + 1) (by simp) ?_; intro g5 cap5 w5 hown5 hgr5 hat5 hlt5; obtain ⟨pd4, q5⟩ := pushed (o := 6) pd3.wbk nf hown5 hgr5 (by simpa using hat5); have l5 := LN.out q5; have c56 := AT4.out q5 6 fv rfl; have f56 := frozen_of_heap q5 6)
        | (at_builtin; refine wpList_append_lies _ rfl _ _ 75 rfl 0 3 i2 (.int .i64 0) 1 8 Tryz.underlying75 hi2 hc0 hc1 hc2 rfl (by decide) sv i (List.replicate i (.int .i64 0)) (by rfl) (rs3.alloc _) ⟨w3.heap.size, 0, none⟩ 1 1 [.int .i64 0] (by rfl) rfl (World.news_of_block (by simpa using heap_alloc_new (w3.setCell ⟨wb, 3, none⟩ (.slice (some ⟨g3, 0, none⟩) (i + 1) cap3)) _)) (by simp [Value.oneCell']) (by decide) (by unfold maxLen; omega) (by omega) (by omega) (w3.heap.size + 1) (by simp) ?_; intro g4 cap4 w4 hown4 hgr4 hat4 hlt4; obtain ⟨pd3, q4⟩ := pushed (o := 5) pd2.wbk ns hown4 hgr4 (by simpa using hat4); have l4 := LN.out q4; have c45 := AT4.out q4 5 sv rfl; have c46 := AT4.out q4 6 fv rfl; have f45 := frozen_of_heap q4 5; have rf4 := pd3.up.owns rf3 hsf)
        | (at_builtin; refine wpList_append_lies _ rfl _ _ 73 rfl 0 75 i1 (.slice none 0 0) 1 24 Tryz.underlying73 hi1 hb0 hb1 hb2 rfl (by decide) kv i (List.replicate i (.slice none 0 0)) (by rfl) (rk2.alloc _) ⟨w2.heap.size, 0, none⟩ 1 1 [.slice none 0 0] (by rfl) rfl (World.news_of_block (by simpa using heap_alloc_new (w2.setCell ⟨wb, 1, none⟩ (.slice (some ⟨g2, 0, none⟩) (i + 1) cap2)) _)) (by simp [Value.oneCell']) (by decide) (by unfold maxLen; omega) (by omega) (by omega) (w2.heap.size + 1) (by simp) ?_; intro g3 cap3 w3 hown3 hgr3 hat3 hlt3; obtain ⟨pd2, q3⟩ := pushed (o := 3) pd1.wbk nk hown3 hgr3 (by simpa using hat3); have l3 := LN.out q3; have c33 := AT4.out q3 3 kv rfl; have c35 := AT4.out q3 5 sv rfl; have f33 := frozen_of_heap q3 3; have rs3 := pd2.up.owns rs2 hks; have rf3 := pd2.up.owns rf2 hkf)
        | (at_builtin; refine wpList_append_lies _ rfl _ _ 39 rfl 0 38 i0 (.pointer none) 1 8 Tryz.underlying39 hi0 ha0 ha1 ha2 rfl (by decide) lv i (rbs.map fun b => .pointer (some ⟨b, 0, none⟩)) (by rfl) (rl.alloc _) ⟨w1.heap.size, 0, none⟩ 1 1 [.pointer (some ⟨rb, 0, none⟩)] (by rfl) rfl (World.news_of_block (heap_alloc_new _ _)) (by simp [Value.oneCell']) (by decide) (by unfold maxLen; omega) (by omega) (by omega) (w1.heap.size + 1) (by simp) ?_; intro g2 cap2 w2 hown2 hgr2 hat2 hlt2; obtain ⟨pd1, q2⟩ := pushed (o := 1) q1 nl hown2 hgr2 hat2; have l2 := LN.out q2; have c21 := AT4.out q2 1 lv rfl; have c23 := AT4.out q2 3 kv rfl; have f21 := frozen_of_heap q2 1; have rk2 := pd1.up.owns rk hlk; have rs2 := pd1.up.owns rs hls; have rf2 := pd1.up.owns rf hlf))
      go_roundw
      case rel =>
        obtain ⟨c', hB'⟩ := hB.out.step hR hb1' hrr pd1 (by simpa [begC] using pd2) (by simpa [begC] using pd3) (by simpa [begC] using pd4)
        exact ⟨i + 1, c', _, _, _, _, _, by omega, by go_num, hB'⟩
      case measure => simp [intOf]; omega
    · obtain rfl : i = n := by omega
      go_wp2_with fail
      go_ret
      obtain ⟨L, hL, hm⟩ := hB.out.mem HHN.out
      exact ⟨c, L, rbs, by rw [hL]; rfl, hm, hB.out.bel, hB.out.old⟩

end Go.Proofs.YtckmppkdpnhodaaGreatDoor
