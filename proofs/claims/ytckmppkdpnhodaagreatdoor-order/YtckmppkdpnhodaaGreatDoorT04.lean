/-
  begun: the world in memory, made. Contract of cartellaw.begun. The plain mathematics of the text of a command: what was read is what it is written as. (*World).step for the kinds Do, View, Known. plays and Alone, over whatever holds of the world between the steps (I), which every step keeps. What the statement asks of a replica's calls; what holds of the world between the steps; Do, View, Known keep it. Alone, for whatever replicas whose calls do what is asked of them. The numbers under which the program holds the library's lock, and that it holds it. A replica that hears nothing, in memory. New.
-/
import Derived.Test.YtckmppkdpnhodaaGreatDoorT03
import Derived.Test.YtckmppkdpnhodaaGreatDoorT01
import Derived.Deep.QuietTactic
import Derived.BigQuiet
import Derived.Test.YtckmppkdpnhodaaGreatDoorProg
import Derived.Conc.MuLone
import Derived.KernelRfl
namespace Go.Proofs.YtckmppkdpnhodaaGreatDoor
set_option linter.unusedVariables false
set_option linter.unusedSimpArgs false
open Go.RowKit Go.Proofs

variable {R : World → Nat → Nat → Nat → List Cm → (Nat → Prop) → Prop}

attribute [local go_sem ↓] Go.wp_at_zero Go.wp_at_succ

/-- 'x.f = append(x.f, v)', x.f being the cell o of the block wb. -/
structure Pushed (W W' : World) (wb o : Nat) (C : Array Value) (T e : TypeId) (v v' : Value) (n : Nat) (xs : List Value) (x : Value) : Prop where
  up : Upd [some wb, v.ownBlock] W W'
  wbk : W'.heap[wb]? = some (.cells (C.setIfInBounds o v') T (0, 0))
  row : W'.ownsRow 0 e 1 v' (n + 1) (xs ++ [x])
  at_ : ∀ b, v'.ownBlock = some b → v.ownBlock = some b ∨ W.heap.size ≤ b
  own : v'.ownBlock ≠ some wb

/-- The world's own cells while it is made. -/
def begC (n : Nat) (lv kv sv fv : Value) : Array Value :=
  #[.int .i64 (n : Int), lv, .slice none 0 0, kv, .slice none 0 0, sv, fv, .bool false, .slice none 0 0, .slice none 0 0, .slice none 0 0, .slice none 0 0, .slice none 0 0, .slice none 0 0]

structure Beg (R : World → Nat → Nat → Nat → List Cm → (Nat → Prop) → Prop) (w W : World) (c : Nat → Nat) (wb n i : Nat) (rbs : List Nat) (lv kv sv fv : Value) : Prop where
  bel : Below w.heap.size w W
  old : ∀ b, b < w.heap.size → c b = 0
  wbk : W.heap[wb]? = some (.cells (begC n lv kv sv fv) 82 (0, 0))
  wbc : c wb = 1
  wbn : w.heap.size ≤ wb
  len : rbs.length = i
  lrow : W.ownsRow 0 38 1 lv i (rbs.map fun b => .pointer (some ⟨b, 0, none⟩))
  lvc : ∀ b, lv.ownBlock = some b → c b = 2
  krow : W.ownsRow 0 75 1 kv i (List.replicate i (.slice none 0 0))
  kvc : ∀ b, kv.ownBlock = some b → c b = 4
  srow : W.ownsRow 0 3 1 sv i (List.replicate i (.int .i64 0))
  svc : ∀ b, sv.ownBlock = some b → c b = 5
  frow : W.ownsRow 0 4 1 fv i (List.replicate i (.bool true))
  fvc : ∀ b, fv.ownBlock = some b → c b = 6
  reps : ∀ j (h : j < rbs.length), R W rbs[j] n j [] fun b => c b = 20 + j

theorem Beg.step (hR : Local R) {w W W1 W2 W3 W4 W5 : World} {c : Nat → Nat} {wb n i rb : Nat} {rbs : List Nat} {lv kv sv fv lv' kv' sv' fv' : Value} (h : Beg R w W c wb n i rbs lv kv sv fv)
    (hb : Below W.heap.size W W1) (hr : R W1 rb n i [] fun b => W.heap.size ≤ b)
    (p1 : Pushed W1 W2 wb 1 (begC n lv kv sv fv) 82 38 lv lv' i (rbs.map fun b => .pointer (some ⟨b, 0, none⟩)) (.pointer (some ⟨rb, 0, none⟩)))
    (p2 : Pushed W2 W3 wb 3 (begC n lv' kv sv fv) 82 75 kv kv' i (List.replicate i (.slice none 0 0)) (.slice none 0 0))
    (p3 : Pushed W3 W4 wb 5 (begC n lv' kv' sv fv) 82 3 sv sv' i (List.replicate i (.int .i64 0)) (.int .i64 0))
    (p4 : Pushed W4 W5 wb 6 (begC n lv' kv' sv' fv) 82 4 fv fv' i (List.replicate i (.bool true)) (.bool true)) :
    ∃ c', Beg R w W5 c' wb n (i + 1) (rbs ++ [rb]) lv' kv' sv' fv' := by
  have z1 := hb.size
  have z2 := p1.up.size
  have z3 := p2.up.size
  have z4 := p3.up.size
  have z5 := p4.up.size
  have z0 := h.bel.size
  have wbl := (Array.getElem?_eq_some_iff.1 h.wbk).1
  have lvl : ∀ b, lv.ownBlock = some b → b < W.heap.size := fun b hb => (h.lrow.lt b hb).2
  have kvl : ∀ b, kv.ownBlock = some b → b < W.heap.size := fun b hb => (h.krow.lt b hb).2
  have svl : ∀ b, sv.ownBlock = some b → b < W.heap.size := fun b hb => (h.srow.lt b hb).2
  have fvl : ∀ b, fv.ownBlock = some b → b < W.heap.size := fun b hb => (h.frow.lt b hb).2
  have l2 : ∀ b, lv'.ownBlock = some b → b < W2.heap.size := fun b hb => (p1.row.lt b hb).2
  have l3 : ∀ b, kv'.ownBlock = some b → b < W3.heap.size := fun b hb => (p2.row.lt b hb).2
  have l4 : ∀ b, sv'.ownBlock = some b → b < W4.heap.size := fun b hb => (p3.row.lt b hb).2
  have l5 : ∀ b, fv'.ownBlock = some b → b < W5.heap.size := fun b hb => (p4.row.lt b hb).2
  let c' : Nat → Nat := fun b => if b < W.heap.size then c b else if b < W1.heap.size then 20 + i else if lv'.ownBlock = some b then 2 else if kv'.ownBlock = some b then 4 else if sv'.ownBlock = some b then 5 else if fv'.ownBlock = some b then 6 else 0
  have cold : ∀ b, b < W.heap.size → c' b = c b := fun b hb => if_pos hb
  have ups : ∀ b, b < W1.heap.size → (b < W.heap.size → c b ≠ 1 ∧ c b ≠ 2 ∧ c b ≠ 4 ∧ c b ≠ 5 ∧ c b ≠ 6) → W5.heap[b]? = W1.heap[b]? := fun b hl hc => by
    have hnot : ∀ (v : Value) (x : Nat), (∀ b, v.ownBlock = some b → b < W.heap.size) → (∀ b, v.ownBlock = some b → c b = x) → (x = 2 ∨ x = 4 ∨ x = 5 ∨ x = 6) → some b ∉ [some wb, v.ownBlock] := fun v x hv1 hv2 hx hm => by
      simp only [List.mem_cons, List.not_mem_nil, or_false, Option.some.injEq] at hm
      rcases hm with rfl | hm
      · have := (hc wbl).1; have := h.wbc; omega
      · have := hc (hv1 b hm.symm); have := hv2 b hm.symm; omega
    rw [p4.up.block b (by omega) (hnot fv 6 fvl h.fvc (by omega)), p3.up.block b (by omega) (hnot sv 5 svl h.svc (by omega)), p2.up.block b (by omega) (hnot kv 4 kvl h.kvc (by omega)), p1.up.block b (by omega) (hnot lv 2 lvl h.lvc (by omega))]
  have dl : ∀ b, lv'.ownBlock = some b → (b < W.heap.size ∧ c b = 2) ∨ (W1.heap.size ≤ b ∧ b < W2.heap.size) := fun b hb => by
    rcases p1.at_ b hb with e | e
    · exact .inl ⟨lvl b e, h.lvc b e⟩
    · exact .inr ⟨e, l2 b hb⟩
  have dk : ∀ b, kv'.ownBlock = some b → (b < W.heap.size ∧ c b = 4) ∨ (W2.heap.size ≤ b ∧ b < W3.heap.size) := fun b hb => by
    rcases p2.at_ b hb with e | e
    · exact .inl ⟨kvl b e, h.kvc b e⟩
    · exact .inr ⟨e, l3 b hb⟩
  have ds : ∀ b, sv'.ownBlock = some b → (b < W.heap.size ∧ c b = 5) ∨ (W3.heap.size ≤ b ∧ b < W4.heap.size) := fun b hb => by
    rcases p3.at_ b hb with e | e
    · exact .inl ⟨svl b e, h.svc b e⟩
    · exact .inr ⟨e, l4 b hb⟩
  have df : ∀ b, fv'.ownBlock = some b → (b < W.heap.size ∧ c b = 6) ∨ (W4.heap.size ≤ b ∧ b < W5.heap.size) := fun b hb => by
    rcases p4.at_ b hb with e | e
    · exact .inl ⟨fvl b e, h.fvc b e⟩
    · exact .inr ⟨e, l5 b hb⟩
  have skip : ∀ (v' v : Value), v'.ownBlock ≠ some wb → (∀ b, v'.ownBlock = some b → v.ownBlock ≠ some b) → ∀ b, v'.ownBlock = some b → some b ∉ [some wb, v.ownBlock] := fun v' v h1 h2 b hb hm => by
    simp only [List.mem_cons, List.not_mem_nil, or_false, Option.some.injEq] at hm
    rcases hm with rfl | hm
    · exact h1 hb
    · exact h2 b hb hm.symm
  have nlk : ∀ b, lv'.ownBlock = some b → kv.ownBlock ≠ some b := fun b hb e => by have := dl b hb; have := kvl b e; have := h.kvc b e; omega
  have nls : ∀ b, lv'.ownBlock = some b → sv.ownBlock ≠ some b := fun b hb e => by have := dl b hb; have := svl b e; have := h.svc b e; omega
  have nlf : ∀ b, lv'.ownBlock = some b → fv.ownBlock ≠ some b := fun b hb e => by have := dl b hb; have := fvl b e; have := h.fvc b e; omega
  have nks : ∀ b, kv'.ownBlock = some b → sv.ownBlock ≠ some b := fun b hb e => by have := dk b hb; have := svl b e; have := h.svc b e; omega
  have nkf : ∀ b, kv'.ownBlock = some b → fv.ownBlock ≠ some b := fun b hb e => by have := dk b hb; have := fvl b e; have := h.fvc b e; omega
  have nsf : ∀ b, sv'.ownBlock = some b → fv.ownBlock ≠ some b := fun b hb e => by have := ds b hb; have := fvl b e; have := h.fvc b e; omega
  refine ⟨c', ?_⟩
  exact
    { bel := by
        refine ⟨?_, ?_, ?_, by omega, fun b hb' => ?_⟩
        · rw [p4.up.os, p3.up.os, p2.up.os, p1.up.os, hb.os, h.bel.os]
        · rw [p4.up.tape, p3.up.tape, p2.up.tape, p1.up.tape, hb.tape, h.bel.tape]
        · rw [p4.up.output, p3.up.output, p2.up.output, p1.up.output, hb.output, h.bel.output]
        · have h0 := h.old b hb'
          rw [ups b (by omega) (fun _ => by omega), hb.block b (by omega), h.bel.block b hb']
      old := fun b hb' => (cold b (by omega)).trans (h.old b hb')
      wbk := by
        have := p4.wbk
        simpa [begC] using this
      wbc := (cold _ wbl).trans h.wbc
      wbn := h.wbn
      len := by simp [h.len]
      lrow := by
        have := p4.up.owns (p3.up.owns (p2.up.owns p1.row (skip lv' kv p1.own nlk)) (skip lv' sv p1.own nls)) (skip lv' fv p1.own nlf)
        simpa using this
      lvc := fun b hb' => by
        rcases dl b hb' with e | e
        · exact (cold b e.1).trans e.2
        · show (if b < W.heap.size then c b else _) = _
          rw [if_neg (by omega), if_neg (by omega), if_pos hb']
      krow := by
        have := p4.up.owns (p3.up.owns p2.row (skip kv' sv p2.own nks)) (skip kv' fv p2.own nkf)
        rwa [List.replicate_succ'] 
      kvc := fun b hb' => by
        rcases dk b hb' with e | e
        · exact (cold b e.1).trans e.2
        · show (if b < W.heap.size then c b else _) = _
          rw [if_neg (by omega), if_neg (by omega), if_neg (fun e' => by have := dl b e'; omega), if_pos hb']
      srow := by
        have := p4.up.owns p3.row (skip sv' fv p3.own nsf)
        rwa [List.replicate_succ']
      svc := fun b hb' => by
        rcases ds b hb' with e | e
        · exact (cold b e.1).trans e.2
        · show (if b < W.heap.size then c b else _) = _
          rw [if_neg (by omega), if_neg (by omega), if_neg (fun e' => by have := dl b e'; omega), if_neg (fun e' => by have := dk b e'; omega), if_pos hb']
      frow := by
        have := p4.row
        rwa [List.replicate_succ']
      fvc := fun b hb' => by
        rcases df b hb' with e | e
        · exact (cold b e.1).trans e.2
        · show (if b < W.heap.size then c b else _) = _
          rw [if_neg (by omega), if_neg (by omega), if_neg (fun e' => by have := dl b e'; omega), if_neg (fun e' => by have := dk b e'; omega), if_neg (fun e' => by have := ds b e'; omega), if_pos hb']
      reps := fun j hj => by
        by_cases hji : j < rbs.length
        · have e : (rbs ++ [rb])[j] = rbs[j] := List.getElem_append_left hji
          rw [e]
          refine hR.same (h.reps j hji) (by omega) fun b hF hl => ⟨?_, (cold b hl).trans hF⟩
          rw [ups b (by omega) (fun _ => by omega), hb.block b hl]
        · have hj2 : j < rbs.length + 1 := by simpa using hj
          obtain rfl : j = rbs.length := by omega
          have e : (rbs ++ [rb])[rbs.length] = rb := by simp
          rw [e, h.len]
          refine hR.same hr (by omega) fun b hF hl => ⟨ups b hl (fun hl' => by omega), ?_⟩
          show (if b < W.heap.size then c b else _) = _
          rw [if_neg (by omega), if_pos hl] }

/-- What stands when all is made. -/
def St.begun (n : Nat) (rbs : List Nat) : St :=
  { n := n, rbs := rbs, logs := List.replicate n [], tr := [], xss := List.replicate n [], since := List.replicate n 0, fresh := List.replicate n true, bk := [] }

theorem Beg.mem {w W : World} {c : Nat → Nat} {wb n : Nat} {rbs : List Nat} {lv kv sv fv : Value} (h : Beg R w W c wb n n rbs lv kv sv fv) (hn : 2 ≤ n ∧ n ≤ 5) :
    ∃ L, L.wb = wb ∧ Mem R W c L (St.begun n rbs) := by
  rcases id h.lrow.2 with ⟨_, h0⟩ | ⟨lb, capl, curl, rfl, -, hlb, -⟩
  · omega
  rcases id h.krow.2 with ⟨_, h0⟩ | ⟨kb, capk, curk, rfl, -, hkb, hk1, hk2, hk3, hk4⟩
  · omega
  rcases id h.frow.2 with ⟨_, h0⟩ | ⟨fb, capf, curf, rfl, -, hfb, hf1, hf2, hf3, hf4⟩
  · omega
  refine ⟨{ wb := wb, lb := lb, capl := capl, tv := .slice none 0 0, bvs := [], kb := kb, capk := capk, KB := curk, sv := sv, fb := fb, capf := capf, FB := curf, osv := .slice none 0 0, kov := .slice none 0 0, us := [] }, rfl, ?_⟩
  exact
    { npos := hn
      wbk := h.wbk
      wbc := h.wbc
      lbc := h.lvc lb rfl
      lcell := fun i hi => by
        have := h.lrow.cells (g := lb) rfl i (.pointer (some ⟨rbs[i], 0, none⟩)) (by simp [show i < rbs.length from hi])
        rwa [Addr.add_mid, Nat.zero_add] at this
      llen := h.len
      trow := World.ownsRow_nil ..
      tvc := fun b hb => by simp [Value.ownBlock] at hb
      blen := rfl
      bef := fun i hi _ => by simp [St.begun] at hi
      kbk := hkb
      kbc := h.kvc kb rfl
      xlen := by simp [St.begun]
      xrow := fun i hi => by
        have hi' : i < n := by simpa [St.begun] using hi
        refine ⟨.slice none 0 0, ?_, ?_, fun b hb => by simp [Value.ownBlock] at hb⟩
        · have := h.krow.cells (g := kb) rfl i (.slice none 0 0) (by simp [hi'])
          rw [Addr.add_mid, Nat.zero_add, cell_of_heap hkb] at this
          exact this
        · have e : (St.begun n rbs).xss[i] = [] := by simp [St.begun]
          rw [e]
          exact World.ownsRow_nil ..
      slen := by simp [St.begun]
      srow := by
        have := h.srow
        simpa [St.begun, ints] using this
      svc := h.svc
      fbk := hfb
      fbc := h.fvc fb rfl
      flen := by simp [St.begun]
      fcell := fun i hi => by
        have hi' : i < n := by simpa [St.begun] using hi
        have := h.frow.cells (g := fb) rfl i (.bool true) (by simp [hi'])
        rw [Addr.add_mid, Nat.zero_add, cell_of_heap hfb] at this
        simpa [St.begun] using this
      orow := World.ownsRow_nil ..
      ovc := fun b hb => by simp [Value.ownBlock] at hb
      marks := fun i hi _ => by simp [St.begun] at hi
      krow := World.ownsRow_nil ..
      kvc := fun b hb => by simp [Value.ownBlock] at hb
      logn := by simp [St.begun]
      reps := fun i hi hi' => by
        have e : (St.begun n rbs).logs[i] = [] := by simp [St.begun]
        rw [e]
        exact h.reps i hi' }

end Go.Proofs.YtckmppkdpnhodaaGreatDoor

namespace Go.Proofs.YtckmppkdpnhodaaGreatDoor
set_option linter.unusedVariables false
set_option linter.unusedSimpArgs false
open Go.RowKit Go.Proofs

variable {R : World → Nat → Nat → Nat → List Cm → (Nat → Prop) → Prop}

attribute [local go_sem ↓] Go.wp_at_zero Go.wp_at_succ

theorem Tryz.info_rep : (Tryz.prog.info? 38).map (fun i => (i.zero, i.size, i.bytes)) = some (some (.pointer none), 1, 8) := by kernel_rfl
/-- What New does. -/
def NewDoes (R : World → Nat → Nat → Nat → List Cm → (Nat → Prop) → Prop) (n : Nat) : Prop :=
  ∀ (i : Nat) (W : World), i < n → Calls Tryz.prog 31 #[.int .i64 (i : Int), .int .i64 (n : Int)] W fun e w' => ∃ rb, e = .returned (.tuple #[.pointer (some ⟨rb, 0, none⟩), .int .i64 0]) ∧ Below W.heap.size W w' ∧ R w' rb n i [] fun b => W.heap.size ≤ b

end Go.Proofs.YtckmppkdpnhodaaGreatDoor

namespace Go.Proofs.YtckmppkdpnhodaaGreatDoor
set_option linter.unusedVariables false
set_option linter.unusedSimpArgs false
open Go.RowKit Go.Proofs

theorem u8_back {a : UInt8} (h : 48 ≤ a.toNat) : UInt8.ofNat (48 + (a.toNat - 48)) = a := by
  have : 48 + (a.toNat - 48) = a.toNat := by omega
  rw [this]; simp

theorem countGo_text : ∀ (l : List UInt8) (c : Nat), countGo l 0 = c → 0 < c → l = (decN c).data.toList
  | [], c, h, h0 => by simp [countGo] at h; omega
  | [a], c, h, h0 => by
    simp only [countGo] at h
    split at h
    · omega
    split at h
    · omega
    have hc : c = a.toNat - 48 := by omega
    have ha : 48 ≤ a.toNat := by omega
    rw [decN_small (by omega), hc, u8_back ha]
  | [a, b], c, h, h0 => by
    simp only [countGo] at h
    split at h
    · omega
    split at h
    · omega
    split at h
    · omega
    split at h
    · omega
    have ha : 48 ≤ a.toNat := by omega
    have hb : 48 ≤ b.toNat := by omega
    have h1 : c / 10 = a.toNat - 48 := by omega
    have h2 : c % 10 = b.toNat - 48 := by omega
    rw [decN_big (by omega), decN_small (by omega), h1, h2, u8_back ha, u8_back hb]
    simp [ByteArray.data_append]
  | a :: b :: e :: r, c, h, h0 => by
    simp only [countGo] at h
    split at h
    · omega
    split at h
    · omega
    split at h
    · omega
    split at h
    · omega
    split at h
    · omega
    split at h
    · omega
    omega

theorem blank_is {s : ByteArray} (h : blank s < s.size) : s[blank s] = 32 := by
  have hk : s.data.toList.findIdx (· == 32) < s.data.toList.length := by simpa [blank] using h
  have := List.findIdx_getElem (p := (· == 32)) (xs := s.data.toList) (w := hk)
  have h3 : s.data.toList[s.data.toList.findIdx (· == 32)]'hk = 32 := by simpa using this
  exact h3

theorem at_blank {s : ByteArray} (h : blank s < s.size) : headOf s ++ ⟨#[32]⟩ ++ tailOf s = s := by
  unfold headOf tailOf
  rw [if_pos h, if_pos h]
  have hd : s.data[blank s]'h = 32 := blank_is h
  apply ByteArray.ext
  apply Array.toList_inj.1
  simp only [ByteArray.data_append, ByteArray.data_extract, Array.toList_append, Array.toList_extract, List.extract_eq_take_drop, List.drop_zero, Nat.sub_zero]
  have e : s.data.toList = s.data.toList.take (blank s) ++ ([32] ++ s.data.toList.drop (blank s + 1)) := by
    have := List.take_append_drop (blank s) s.data.toList
    conv => lhs; rw [← this]
    congr 1
    rw [List.drop_eq_getElem_cons (by simpa using h)]
    simp [hd]
  conv => rhs; rw [e]
  rw [List.append_assoc]
  congr 2
  rw [List.take_of_length_le (by rw [List.length_drop, Array.length_toList]; exact Nat.le_refl _)]

theorem read_parts {s : ByteArray} {cm : Cm} (h : readC s = some cm) : CmOk cm ∧ textOf cm = s := by
  unfold readC at h
  split at h
  case isFalse => cases h
  case isTrue h1 =>
    obtain ⟨hb, hw⟩ := h1
    simp only [hasBlank, decide_eq_true_eq] at hb
    have hs := at_blank hb
    split at h
    case isTrue h2 =>
      split at h
      case isFalse => cases h
      case isTrue h3 =>
        obtain ⟨hb2, hc⟩ := h3
        simp only [hasBlank, decide_eq_true_eq] at hb2
        have hs2 := at_blank hb2
        have hd := countGo_text _ _ rfl hc
        have hd' : decN (countN (tailOf (tailOf s))) = tailOf (tailOf s) := ByteArray.ext (Array.toList_inj.1 hd.symm)
        simp only [Option.some.injEq] at h
        subst h
        refine ⟨⟨hw, fun _ => ⟨hc, countGo_le _ 0 (by omega)⟩, fun h => absurd rfl h⟩, ?_⟩
        simp only [textOf, if_pos]
        rw [hd', ← h2]
        conv => rhs; rw [← hs, ← hs2]
        simp only [ByteArray.append_assoc]
    case isFalse h2 =>
      split at h
      case isTrue => cases h
      case isFalse h3 =>
        have hb2 : ¬ blank (tailOf s) < (tailOf s).size := by simpa [hasBlank] using h3
        have ht : headOf (tailOf s) = tailOf s := by unfold headOf; rw [if_neg hb2]
        have fin : ∀ k : Kd, k ≠ .closed → headOf s = k.bs → CmOk ⟨k, headOf (tailOf s), 0⟩ ∧ textOf ⟨k, headOf (tailOf s), 0⟩ = s := fun k hk hh => by
          refine ⟨⟨hw, fun e => absurd e hk, fun _ => rfl⟩, ?_⟩
          simp only [textOf, if_neg hk, ht, ByteArray.append_empty]
          rw [← hh]; exact hs
        split at h
        case isTrue h4 => simp only [Option.some.injEq] at h; subst h; exact fin .listen (by decide) h4
        case isFalse =>
        split at h
        case isTrue h4 => simp only [Option.some.injEq] at h; subst h; exact fin .established (by decide) h4
        case isFalse =>
        split at h
        case isTrue h4 => simp only [Option.some.injEq] at h; subst h; exact fin .finWait (by decide) h4
        case isFalse =>
        split at h
        case isTrue h4 => simp only [Option.some.injEq] at h; subst h; exact fin .closeWait (by decide) h4
        case isFalse => cases h

end Go.Proofs.YtckmppkdpnhodaaGreatDoor

namespace Go.Proofs.YtckmppkdpnhodaaGreatDoor
set_option linter.unusedVariables false
set_option linter.unusedSimpArgs false
open Go.RowKit

end Go.Proofs.YtckmppkdpnhodaaGreatDoor

namespace Go.Proofs.YtckmppkdpnhodaaGreatDoor
set_option linter.unusedVariables false
set_option linter.unusedSimpArgs false
open Go.RowKit

/-- A step of a script. -/
structure Sp where
  K : Int
  A : Int
  B : Int
  C : Int
  S : ByteArray

def Sp.ok (o : Sp) : Prop := -9223372036854775808 ≤ o.K ∧ o.K ≤ 9223372036854775807
def Sp.val (o : Sp) : Value := .agg #[.int .i64 o.K, .int .i64 o.A, .int .i64 o.B, .int .i64 o.C, .string o.S]

/-- A script in memory. -/
def ScriptAt (w : World) (p : Option Addr) (sc : List Sp) : Prop :=
  ∀ (i : Nat) (o : Sp), sc[i]? = some o → ∃ b off, p = some ⟨b, off, none⟩ ∧ w.cell? ⟨b, off + i * 5, none⟩ = some (.int .i64 o.K) ∧ w.cell? ⟨b, off + i * 5 + 1, none⟩ = some (.int .i64 o.A) ∧
    w.cell? ⟨b, off + i * 5 + 2, none⟩ = some (.int .i64 o.B) ∧ w.cell? ⟨b, off + i * 5 + 3, none⟩ = some (.int .i64 o.C) ∧ w.cell? ⟨b, off + i * 5 + 4, none⟩ = some (.string o.S)

end Go.Proofs.YtckmppkdpnhodaaGreatDoor

namespace Go.Proofs.YtckmppkdpnhodaaGreatDoor
set_option linter.unusedVariables false
set_option linter.unusedSimpArgs false
open Go.RowKit Go.Proofs

/-- What the statement asks of the replica's calls. (G: what stands of the variables of the packages.) -/
structure Rep (R : World → Nat → Nat → Nat → List Cm → (Nat → Prop) → Prop) (G : World → Prop) : Prop where
  loc : Local R
  new : ∀ n, 2 ≤ n ∧ n ≤ 5 → NewDoes R n
  known : ∀ {w : World} {rb n me : Nat} {log : List Cm} {F : Nat → Prop}, G w → R w rb n me log F → Calls Tryz.prog 28 #[.pointer (some ⟨rb, 0, none⟩)] w fun e w' => ∃ p cap, e = .returned (.slice p log.length cap) ∧ w'.ownsRow w.heap.size 68 3 (.slice p log.length cap) log.length (ownOps me log) ∧ Below w.heap.size w w'
  view : ∀ {w : World} {rb n me : Nat} {log : List Cm} {F : Nat → Prop}, G w → R w rb n me log F → Calls Tryz.prog 23 #[.pointer (some ⟨rb, 0, none⟩)] w fun e w' => ∃ s, e = .returned (.string s) ∧ IsView (ownTr me log) (List.range log.length) s ∧ Below w.heap.size w w'
  bad : ∀ {w : World} {rb n me : Nat} {log : List Cm} {F : Nat → Prop} (s : ByteArray), G w → R w rb n me log F → s.size ≤ maxLen → readC s = none → Calls Tryz.prog 20 #[.pointer (some ⟨rb, 0, none⟩), .string s] w fun e w' => e = .returned (.int .i64 2) ∧ Below w.heap.size w w'
  unk : ∀ {w : World} {rb n me : Nat} {log : List Cm} {F : Nat → Prop} (s : ByteArray) (cm : Cm), G w → R w rb n me log F → s.size ≤ maxLen → readC s = some cm → lacks (ownTr me log) (List.range log.length) cm = true → Calls Tryz.prog 20 #[.pointer (some ⟨rb, 0, none⟩), .string s] w fun e w' => e = .returned (.int .i64 3) ∧ Below w.heap.size w w'
  full : ∀ {w : World} {rb n me : Nat} {log : List Cm} {F : Nat → Prop} (s : ByteArray) (cm : Cm), G w → R w rb n me log F → s.size ≤ maxLen → readC s = some cm → lacks (ownTr me log) (List.range log.length) cm = false → 8 ≤ log.length → Calls Tryz.prog 20 #[.pointer (some ⟨rb, 0, none⟩), .string s] w fun e w' => e = .returned (.int .i64 4) ∧ Below w.heap.size w w'
  ok : ∀ {w : World} {rb n me : Nat} {log : List Cm} {F : Nat → Prop} (s : ByteArray) (cm : Cm), G w → R w rb n me log F → s.size ≤ maxLen → readC s = some cm → lacks (ownTr me log) (List.range log.length) cm = false → log.length < 8 → Calls Tryz.prog 20 #[.pointer (some ⟨rb, 0, none⟩), .string s] w fun e w' => e = .returned (.int .i64 0) ∧ w'.os = w.os ∧ w'.tape = w.tape ∧ w'.output = w.output ∧ w.heap.size ≤ w'.heap.size ∧ (∀ b, b < w.heap.size → ¬ F b → w'.heap[b]? = w.heap[b]?) ∧ R w' rb n me (log ++ [cm]) fun b => (b < w.heap.size ∧ F b) ∨ w.heap.size ≤ b

structure Inv (n : Nat) (lg : Nat → List Cm) (st : St) : Prop where
  sn : st.n = n
  hn : 2 ≤ n ∧ n ≤ 5
  fl : st.fresh.length = n
  bks : ∀ e ∈ st.bk, e.1 ≤ 20
  deaf : Deaf n st.tr
  logs : ∀ i, i < n → st.logs[i]? = some (lg i)
  since : ∀ i, i < n → st.since[i]? = some (own st.tr i).length
  le8 : ∀ i, i < n → (own st.tr i).length ≤ 8
  xs : ∀ i, i < n → ∃ m, m ≤ (own st.tr i).length ∧ st.xss[i]? = some ((own st.tr i).take m) ∧ (st.fresh[i]? = some true ∨ m = (own st.tr i).length)

/-- What was there when the statement began stands. -/
structure Old (w0 W : World) (c : Nat → Nat) : Prop where
  bel : Below w0.heap.size w0 W
  col : ∀ b, b < w0.heap.size → c b = 0

theorem Old.stp {w0 W W' : World} {c c' : Nat → Nat} (h : Old w0 W c) (s : Stp W c W' c') : Old w0 W' c' :=
  ⟨⟨s.os.trans h.bel.os, s.tape.trans h.bel.tape, s.output.trans h.bel.output, Nat.le_trans h.bel.size s.size, fun b hb => (s.zero b (Nat.lt_of_lt_of_le hb h.bel.size) (h.col b hb)).trans (h.bel.block b hb)⟩,
   fun b hb => (s.col b (Nat.lt_of_lt_of_le hb h.bel.size)).trans (h.col b hb)⟩

theorem Old.below {w0 W W' : World} {c : Nat → Nat} (h : Old w0 W c) (s : Below W.heap.size W W') : Old w0 W' c := h.stp (Stp.below s)

section
variable {R : World → Nat → Nat → Nat → List Cm → (Nat → Prop) → Prop} {G : World → Prop} {w0 : World}

end

section
variable {R : World → Nat → Nat → Nat → List Cm → (Nat → Prop) → Prop} {G : World → Prop} {w0 : World}

/-- What the world is between two steps. -/
def Between (R : World → Nat → Nat → Nat → List Cm → (Nat → Prop) → Prop) (w0 : World) (n wb T B : Nat) (W : World) : Prop :=
  ∃ c L st, L.wb = wb ∧ Mem R W c L st ∧ Inv n (logOf st.tr) st ∧ Old w0 W c ∧ st.tr.length ≤ T ∧ st.bk.length ≤ B

theorem Between.mono {n wb T B T' B' : Nat} {W : World} (h : Between R w0 n wb T B W) (hT : T ≤ T') (hB : B ≤ B') : Between R w0 n wb T' B' W := by
  obtain ⟨c, L, st, h1, h2, h3, h4, h5, h6⟩ := h
  exact ⟨c, L, st, h1, h2, h3, h4, by omega, by omega⟩

theorem Between.below (rep : Rep R G) {n wb T B : Nat} {W W' : World} (h : Between R w0 n wb T B W) (hb : Below W.heap.size W W') : Between R w0 n wb T B W' := by
  obtain ⟨c, L, st, h1, h2, h3, h4, h5, h6⟩ := h
  exact ⟨c, L, st, h1, h2.below rep.loc hb, h3, h4.below hb, h5, h6⟩

end
end Go.Proofs.YtckmppkdpnhodaaGreatDoor

namespace Go.Proofs.YtckmppkdpnhodaaGreatDoor
set_option linter.unusedVariables false
set_option linter.unusedSimpArgs false
open Go.RowKit Go.Proofs

theorem ScriptAt.below {w w' : World} {p : Option Addr} {sc : List Sp} (h : ScriptAt w p sc) (hb : Below w.heap.size w w') : ScriptAt w' p sc := fun i o ho => by
  obtain ⟨b, off, h1, h2, h3, h4, h5, h6⟩ := h i o ho
  exact ⟨b, off, h1, cell_below hb h2, cell_below hb h3, cell_below hb h4, cell_below hb h5, cell_below hb h6⟩

section
variable {R : World → Nat → Nat → Nat → List Cm → (Nat → Prop) → Prop} {G : World → Prop} {w0 : World}

end
end Go.Proofs.YtckmppkdpnhodaaGreatDoor

namespace Go.Proofs.YtckmppkdpnhodaaGreatDoor
set_option linter.unusedVariables false
set_option linter.unusedSimpArgs false
abbrev muLink : Go.Conc.Locks.MuLink := { lock := 44, unlock := 45, ilock := 78, iunlock := 79, lockSlow := 121, unlockSlow := 124, disable := 117, enable := 119, acquire := 120, relMerge := 122, cas32 := 118, add32 := 123, tMutex := 100, tIMutex := 98, tPMutex := 164, tPIMutex := 214, tPI32 := 216, tUP := 218, tNoCopy := 95, tU32 := 96 }
theorem muLib : Go.Conc.Locks.MuLib Tryz.prog muLink :=
  ⟨Tryz.func44, Tryz.func45, Tryz.func78, Tryz.func79, Tryz.func117, Tryz.func119, Tryz.func120, Tryz.func122, Tryz.func118, Tryz.func123, Tryz.underlying98, Tryz.runUnderlying98, Tryz.sizeOf98, Tryz.isAgg98, Tryz.zeroValue98, Tryz.underlying100, Tryz.runUnderlying100, Tryz.sizeOf100, Tryz.isAgg100, Tryz.zeroValue100, Tryz.underlying164, Tryz.runUnderlying164, Tryz.sizeOf164, Tryz.isAgg164, Tryz.zeroValue164, Tryz.underlying214, Tryz.runUnderlying214, Tryz.sizeOf214, Tryz.isAgg214, Tryz.zeroValue214, Tryz.underlying216, Tryz.runUnderlying216, Tryz.sizeOf216, Tryz.isAgg216, Tryz.zeroValue216, Tryz.underlying218, Tryz.runUnderlying218, Tryz.sizeOf218, Tryz.isAgg218, Tryz.zeroValue218, Tryz.underlying95, Tryz.runUnderlying95, Tryz.sizeOf95, Tryz.isAgg95, Tryz.zeroValue95, Tryz.underlying21, Tryz.runUnderlying21, Tryz.sizeOf21, Tryz.isAgg21, Tryz.zeroValue21, (by kernel_rfl)⟩
end Go.Proofs.YtckmppkdpnhodaaGreatDoor

namespace Go.Proofs.YtckmppkdpnhodaaGreatDoor
set_option linter.unusedVariables false
set_option linter.unusedSimpArgs false
open Go.RowKit Go.Proofs

attribute [local go_sem ↓] Go.wp_at_zero Go.wp_at_succ

/-- The number of a kind. -/
def Kd.num : Kd → Nat
  | .closed => 0
  | .listen => 1
  | .established => 2
  | .finWait => 3
  | .closeWait => 4

theorem Kd.num_lt (k : Kd) : k.num < 5 := by cases k <;> decide

/-- A reach in which only the replica me has commands. -/
def reachCells (me i : Nat) : List Value := (List.range 5).map fun j => .int .i64 ((if j = me then i else 0 : Nat) : Int)

/-- The cells of the i-th entry of the replica me. -/
def entCells (me i : Nat) (c : Cm) : List Value :=
  [.int .i64 (me : Int), .int .i64 ((i + 1 : Nat) : Int)] ++ reachCells me i ++ [.int .i64 (c.k.num : Int), .string c.word, .int .i64 (c.count : Int)]

/-- The cells of the log. -/
def logCells (me : Nat) (log : List Cm) : List Value := (List.range log.length).flatMap fun i => entCells me i (log[i]?.getD cm0)

/-- The replicas to which a command goes. -/
def others (n me : Nat) : List Nat := (List.range n).filter fun t => decide (t ≠ me)

/-- The cells of what waits. -/
def boxCells (n me : Nat) (log : List Cm) : List Value := (List.range log.length).flatMap fun i => (others n me).flatMap fun t => [.int .i64 0, .int .i64 (t : Int)] ++ entCells me i (log[i]?.getD cm0)

def repC (n me i : Nat) (ev wv : Value) : Array Value :=
  #[.int .i32 0, .int .u32 0, .int .i64 (me : Int), .int .i64 (n : Int), ev, .int .i64 ((if 0 = me then i else 0 : Nat) : Int), .int .i64 ((if 1 = me then i else 0 : Nat) : Int), .int .i64 ((if 2 = me then i else 0 : Nat) : Int), .int .i64 ((if 3 = me then i else 0 : Nat) : Int), .int .i64 ((if 4 = me then i else 0 : Nat) : Int), .int .i64 0, wv, .bool false, .bool false, .bool false, .bool false, .bool false]

structure RepM (w : World) (rb n me : Nat) (log : List Cm) (F : Nat → Prop) (ev wv : Value) : Prop where
  hn : 2 ≤ n ∧ n ≤ 5
  hme : me < n
  le8 : log.length ≤ 8
  ok : ∀ c ∈ log, CmOk c
  rbk : w.heap[rb]? = some (.cells (repC n me log.length ev wv) 113 (0, 0))
  rbF : F rb
  erow : w.ownsRow 0 122 10 ev log.length (logCells me log)
  eF : ∀ b, ev.ownBlock = some b → F b ∧ b ≠ rb
  wrow : w.ownsRow 0 171 12 wv (log.length * (n - 1)) (boxCells n me log)
  wF : ∀ b, wv.ownBlock = some b → F b ∧ b ≠ rb ∧ ev.ownBlock ≠ some b

theorem RepM.same {w w' : World} {rb n me : Nat} {log : List Cm} {F F' : Nat → Prop} {ev wv : Value} (h : RepM w rb n me log F ev wv) (hs : ∀ b, F b → b < w.heap.size → w'.heap[b]? = w.heap[b]? ∧ F' b) : RepM w' rb n me log F' ev wv := by
  have ow : ∀ {e : TypeId} {size : Nat} {v : Value} {n : Nat} {xs : List Value}, w.ownsRow 0 e size v n xs → (∀ b, v.ownBlock = some b → F b) → w'.ownsRow 0 e size v n xs := fun ho hF => by
    refine ⟨ho.1, ?_⟩
    rcases ho.2 with hn | ⟨g, cap, cur, rfl, hb, hg, rest⟩
    · exact .inl hn
    · exact .inr ⟨g, cap, cur, rfl, hb, by rw [(hs g (hF g rfl) (Array.getElem?_eq_some_iff.1 hg).1).1]; exact hg, rest⟩
  have hrl := (Array.getElem?_eq_some_iff.1 h.rbk).1
  exact
    { hn := h.hn
      hme := h.hme
      le8 := h.le8
      ok := h.ok
      rbk := (hs rb h.rbF hrl).1.trans h.rbk
      rbF := (hs rb h.rbF hrl).2
      erow := ow h.erow fun b hb => (h.eF b hb).1
      eF := fun b hb => ⟨(hs b (h.eF b hb).1 (h.erow.lt b hb).2).2, (h.eF b hb).2⟩
      wrow := ow h.wrow fun b hb => (h.wF b hb).1
      wF := fun b hb => ⟨(hs b (h.wF b hb).1 (h.wrow.lt b hb).2).2, (h.wF b hb).2⟩ }

end Go.Proofs.YtckmppkdpnhodaaGreatDoor
