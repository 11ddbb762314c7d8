/-
  (*Replica).isMine. Log.Learn and Box.Known of a replica. The reader of frames: take, one. The reader of frames: number. The reader of frames: replica, text.
-/
import Derived.Test.YtckmppkdpnhodaaGreatDoorT27
import Derived.BigQuiet
import Derived.Test.YtckmppkdpnhodaaGreatDoorT26
namespace Go.Proofs.YtckmppkdpnhodaaGreatDoor
set_option linter.unusedVariables false
set_option linter.unusedSimpArgs false
open Go.RowKit Go.Proofs Go.MuLone

/-- May the letter have been written by the replica, to this one? -/
def isMy (n me : Nat) (log : List En) (a b h : Nat) (fr : Int) : Bool := decide ((a : Int) = fr ∧ fr ≠ (me : Int) ∧ fr < (n : Int) ∧ b = me ∧ h ≤ cntL log me)

set_option maxRecDepth 100000 in
set_option maxHeartbeats 8000000 in
theorem isMineG {w : World} {rb n me : Nat} {lk : Int} {log : List En} {now : Nat} {its : List It} {ow : Nat → Bool} {ev wv : Value} (hm : RepQ w rb n me lk log now its ow ev wv) (hme : me < 5) (a b h : Nat) (p : Option Addr) (l c : Nat) (fr : Int) :
    Calls Tryz.prog 60 #[.pointer (some ⟨rb, 0, none⟩), .agg #[.int .i64 (a : Int), .int .i64 (b : Int), .int .i64 (h : Int), .slice p l c], .int .i64 fr] w fun e w' => e = .returned (.bool (isMy n me log a b h fr)) ∧ Below w.heap.size w w' := by
  have hrl := hm.lt
  obtain ⟨wa, hwa⟩ : ∃ wa, w.alloc (.cells #[.int .i64 (a : Int), .int .i64 (b : Int), .int .i64 (h : Int), .slice p l c] 140) = wa := ⟨_, rfl⟩
  have hea : wa.heap[w.heap.size]? = some (.cells #[.int .i64 (a : Int), .int .i64 (b : Int), .int .i64 (h : Int), .slice p l c] 140 (0, 0)) := by rw [← hwa]; exact heap_alloc_new w _
  have hba : Below w.heap.size w wa := by rw [← hwa]; exact (Below.refl _ w).alloc (Nat.le_refl _) _
  have hsa : wa.heap.size = w.heap.size + 1 := by rw [← hwa]; simp
  have hka := (hm.below hba).rbk
  have HBA : Hid (Below w.heap.size w wa) := hba
  have HRC : Hid (∀ W, Below wa.heap.size wa W → Calls Tryz.prog 57 #[.pointer (some ⟨rb, 4, none⟩)] W fun e w' => e = .returned (.agg #[.int .i64 (cntL log 0 : Int), .int .i64 (cntL log 1 : Int), .int .i64 (cntL log 2 : Int), .int .i64 (cntL log 3 : Int), .int .i64 (cntL log 4 : Int)]) ∧ Below W.heap.size W w') := fun W hW => hm.reach (hba.trans (hW.mono (by omega)))
  have a0 : wa.cell? ⟨w.heap.size, 0, none⟩ = some (.int .i64 (a : Int)) := by rw [cell_of_heap hea]; rfl
  have a1 : wa.cell? ⟨w.heap.size, 1, none⟩ = some (.int .i64 (b : Int)) := by rw [cell_of_heap hea]; rfl
  have a2 : wa.cell? ⟨w.heap.size, 2, none⟩ = some (.int .i64 (h : Int)) := by rw [cell_of_heap hea]; rfl
  have r2 : wa.cell? ⟨rb, 2, none⟩ = some (.int .i64 (me : Int)) := by rw [cell_of_heap hka]; rfl
  have r3 : wa.cell? ⟨rb, 3, none⟩ = some (.int .i64 (n : Int)) := by rw [cell_of_heap hka]; rfl
  have hix : ∀ W, (Instr.index 102 (.agg #[.int .i64 (cntL log 0 : Int), .int .i64 (cntL log 1 : Int), .int .i64 (cntL log 2 : Int), .int .i64 (cntL log 3 : Int), .int .i64 (cntL log 4 : Int)]) (.int .i64 (me : Int))).run Tryz.prog W = .ok (.int .i64 ((cntL log me : Nat) : Int)) W := fun W => by
    rcases (show me = 0 ∨ me = 1 ∨ me = 2 ∨ me = 3 ∨ me = 4 by omega) with h | h | h | h | h <;> (subst h; kernel_rfl)
  have hfd : ∀ W, (Instr.field 104 (.agg #[.int .i64 (cntL log 0 : Int), .int .i64 (cntL log 1 : Int), .int .i64 (cntL log 2 : Int), .int .i64 (cntL log 3 : Int), .int .i64 (cntL log 4 : Int)]) 0).run Tryz.prog W = .ok (.agg #[.int .i64 (cntL log 0 : Int), .int .i64 (cntL log 1 : Int), .int .i64 (cntL log 2 : Int), .int .i64 (cntL log 3 : Int), .int .i64 (cntL log 4 : Int)]) W := fun W => by kernel_rfl
  clear hm hka hea hba
  have HF : Hid (∀ q : Prop, (isMy n me log a b h fr = true → q) → ¬ q → isMy n me log a b h fr = false) := fun q h1 h2 => by
    cases hc : isMy n me log a b h fr with
    | false => rfl
    | true => exact absurd (h1 hc) h2
  have HE : Hid (isMy n me log a b h fr = true ↔ ((a : Int) = fr ∧ fr ≠ (me : Int) ∧ fr < (n : Int) ∧ b = me ∧ h ≤ cntL log me)) := by
    show _ ↔ _
    unfold isMy
    rw [decide_eq_true_eq]
  by_cases h1 : (a : Int) = fr
  · have e1 : ((a : Int) == fr) = true := beq_iff_eq.2 h1
    by_cases h2 : fr = (me : Int)
    · have e2 : (fr != (me : Int)) = false := by rw [bne_eq_false_iff_eq]; exact h2
      have HV : Hid (isMy n me log a b h fr = false) := HF.out _ (fun q => (HE.out.1 q).2.1) (fun q => q h2)
      clear HF HE h1 h2
      go_enter Tryz.func60, Tryz.ntmps60
      go_upto_region 1 with fail
      (try rw [hwa])
      clear hwa
      generalize hlb : w.heap.size = lb at *
      go_quiet (fail)
      go_wp2
      go_ret
      exact ⟨ret_bool HV.out.symm, below_drewN (by first | (rw [hlb]; exact HBA.out) | exact HBA.out) _⟩
    · have e2 : (fr != (me : Int)) = true := bne_iff_ne.2 h2
      by_cases h3 : fr < (n : Int)
      · have e3 : decide (fr < (n : Int)) = true := decide_eq_true h3
        by_cases h4 : b = me
        · have HV : Hid (isMy n me log a b h fr = decide (h ≤ cntL log me)) := by
            show _ = _
            unfold isMy
            rw [decide_eq_decide]
            constructor
            · rintro ⟨-, -, -, -, q⟩; omega
            · intro q; exact ⟨h1, h2, h3, h4, by omega⟩
          have e4 : ((b : Int) == (me : Int)) = true := beq_iff_eq.2 (by omega)
          clear HF HE h1 h2 h4
          go_enter Tryz.func60, Tryz.ntmps60
          go_upto_region 1 with fail
          (try rw [hwa])
          clear hwa
          generalize hlb : w.heap.size = lb at *
          go_region_held3 (fun w' => w'.cell? ⟨lb, 0, none⟩ = some (.int .i64 (a : Int)) ∧ w'.cell? ⟨lb, 1, none⟩ = some (.int .i64 (b : Int)) ∧ w'.cell? ⟨lb, 2, none⟩ = some (.int .i64 (h : Int)) ∧ w'.cell? ⟨rb, 2, none⟩ = some (.int .i64 (me : Int)) ∧ w'.cell? ⟨rb, 3, none⟩ = some (.int .i64 (n : Int)))
            (first
              | exact ⟨a0, a1, a2, r2, r3⟩
              | exact ⟨cell_below t2 a0, cell_below t2 a1, cell_below t2 a2, cell_below t2 r2, cell_below t2 r3⟩
              | go_keep)
            (first
              | (go_at_call 57; refine (HRC.out _ ((Below.refl _ wa).drew)).mono ?_; rintro e w2 ⟨rfl, u2⟩; have t2 : Below wa.heap.size wa w2 := ((Below.refl _ wa).drew).trans u2))
          go_wp2
          go_ret
          exact ⟨ret_bool HV.out.symm, by rw [hlb]; exact HBA.out.trans (t2.mono (by omega))⟩
        · have e4 : ((b : Int) == (me : Int)) = false := beq_eq_false_iff_ne.2 (by omega)
          have HV : Hid (isMy n me log a b h fr = false) := HF.out _ (fun q => (HE.out.1 q).2.2.2.1) h4
          clear HF HE h1 h2 h4
          go_enter Tryz.func60, Tryz.ntmps60
          go_upto_region 1 with fail
          (try rw [hwa])
          clear hwa
          generalize hlb : w.heap.size = lb at *
          go_quiet (fail)
          go_wp2
          go_ret
          exact ⟨ret_bool HV.out.symm, below_drewN (by first | (rw [hlb]; exact HBA.out) | exact HBA.out) _⟩
      · have e3 : decide (fr < (n : Int)) = false := decide_eq_false h3
        have HV : Hid (isMy n me log a b h fr = false) := HF.out _ (fun q => (HE.out.1 q).2.2.1) h3
        clear HF HE h1 h2
        go_enter Tryz.func60, Tryz.ntmps60
        go_upto_region 1 with fail
        (try rw [hwa])
        clear hwa
        generalize hlb : w.heap.size = lb at *
        go_quiet (fail)
        go_wp2
        go_ret
        exact ⟨ret_bool HV.out.symm, below_drewN (by first | (rw [hlb]; exact HBA.out) | exact HBA.out) _⟩
  · have e1 : ((a : Int) == fr) = false := beq_eq_false_iff_ne.2 h1
    have HV : Hid (isMy n me log a b h fr = false) := HF.out _ (fun q => (HE.out.1 q).1) h1
    clear HF HE h1
    go_enter Tryz.func60, Tryz.ntmps60
    go_upto_region 1 with fail
    (try rw [hwa])
    clear hwa
    generalize hlb : w.heap.size = lb at *
    go_quiet (fail)
    go_wp2
    go_ret
    exact ⟨ret_bool HV.out.symm, below_drewN (by first | (rw [hlb]; exact HBA.out) | exact HBA.out) _⟩

end Go.Proofs.YtckmppkdpnhodaaGreatDoor

namespace Go.Proofs.YtckmppkdpnhodaaGreatDoor
set_option linter.unusedVariables false
set_option linter.unusedSimpArgs false
open Go.RowKit Go.Proofs

theorem learnR {w : World} {rb n me : Nat} {lk : Int} {log : List En} {now : Nat} {its : List It} {ow : Nat → Bool} {ev wv : Value} (hm : RepQ w rb n me lk log now its ow ev wv) (h8 : log.length ≤ 4294967295) (x : En) :
    Calls Tryz.prog 62 #[.pointer (some ⟨rb, 4, none⟩), x.val] w fun e w' => e = .returned (.tuple #[]) ∧ ∃ ev', RepQ w' rb n me lk (learnL log x) now its ow ev' wv ∧ (∀ b, ev'.ownBlock = some b → ev.ownBlock = some b ∨ w.heap.size ≤ b) ∧ Upd [some rb, ev.ownBlock] w w' := by
  have hcl := cntL_le log x.org
  by_cases hs : x.seq = cntL log x.org + 1
  · have hne : x.seq = (reachOf log).get x.org + 1 := by rw [reachOf_get]; exact hs
    refine (learn_next rb log (by omega) x (reachOf log) ev _ _ w hm.rbk rfl (fun j hj => repG_reach _ _ _ _ _ _ _ _ hj) (fun j => by rw [reachOf_get]; have := cntL_le log j; omega) hne hm.erow hm.eN).mono ?_
    rintro e w' ⟨rfl, (⟨hc, hb⟩ | ⟨hc, g, cap, o1, o2, o3, o4, o5⟩)⟩
    · refine ⟨rfl, ev, ?_, fun b hb => .inl hb, Upd.of_below hb⟩
      have e : learnL log x = log := by unfold learnL; rw [if_neg fun h => by rw [hc] at h; simp at h]
      rw [e]
      exact hm.below hb
    · have e : learnL log x = log ++ [x] := by unfold learnL; rw [if_pos ⟨hs, hc⟩]
      refine ⟨rfl, .slice (some ⟨g, 0, none⟩) (log.length + 1) cap, ?_, fun b hb => ?_, o5⟩
      · rw [e]
        refine ⟨?_, by rw [List.length_append]; exact o1, fun e => o3 (by cases e; rfl), o5.owns hm.wrow fun b hb hmem => ?_, hm.wN, fun b hb e => ?_, hm.heap⟩
        · rw [o4, repG_put _ _ _ _ _ _ _ _ _ x.ho, reachOf_snoc log x hs]
        · simp only [List.mem_cons, List.not_mem_nil, or_false, Option.some.injEq] at hmem
          rcases hmem with e | e
          · exact hm.wN (by rw [hb, e])
          · exact hm.ew b hb e.symm
        · have hbg : b = g := by cases e; rfl
          subst hbg
          rcases o2 with h | h
          · exact hm.ew b hb h
          · have := (hm.wrow.lt b hb).2; omega
      · have hbg : b = g := by cases hb; rfl
        subst hbg
        exact o2
  · refine (learn_seq rb x (cntL log x.org) _ _ w hm.rbk (by rw [repG_reach _ _ _ _ _ _ _ _ x.ho, reachOf_get]) (by omega) hs).mono ?_
    rintro e w' ⟨rfl, hb⟩
    have e : learnL log x = log := by unfold learnL; rw [if_neg fun h => hs h.1]
    exact ⟨rfl, ev, by rw [e]; exact hm.below hb, fun b hb => .inl hb, Upd.of_below hb⟩

theorem boxKnownR {w : World} {rb n me : Nat} {lk : Int} {log : List En} {now : Nat} {its : List It} {ow : Nat → Bool} {ev wv : Value} (hm : RepQ w rb n me lk log now its ow ev wv) (hl : its.length ≤ 1000) (tt cnt : Nat) :
    Calls Tryz.prog 61 #[.pointer (some ⟨rb, 10, none⟩), .int .i64 (tt : Int), .int .i64 (cnt : Int)] w fun e w' => e = .returned (.tuple #[]) ∧ ∃ its' wv', RepQ w' rb n me lk log now its' ow ev wv' ∧ its'.Perm (keepL tt cnt its) ∧ wv'.ownBlock = wv.ownBlock ∧ Upd [some rb, wv.ownBlock] w w' := by
  refine (knownG rb tt cnt its hl wv _ _ w hm.qat).mono ?_
  rintro e w' ⟨rfl, wv', its', hk, hp, hh⟩
  refine ⟨rfl, its', wv', ⟨by rw [hk.q.rbk, repG_box], hk.upd.owns hm.erow fun b hb hmem => ?_, hm.eN, hk.q.row, hk.q.ne, fun b hb e => hm.ew b (by rw [← hk.own]; exact hb) e, hh⟩, hp, hk.own, hk.upd⟩
  simp only [List.mem_cons, List.not_mem_nil, or_false, Option.some.injEq] at hmem
  rcases hmem with e | e
  · exact hm.eN (by rw [hb, e])
  · exact hm.ew b e.symm hb

theorem oweR {w : World} {rb n me : Nat} {lk : Int} {log : List En} {now : Nat} {its : List It} {ow : Nat → Bool} {ev wv : Value} (hm : RepQ w rb n me lk log now its ow ev wv) {tt : Nat} (ht : tt < 5) :
    Calls Tryz.prog 63 #[.pointer (some ⟨rb, 10, none⟩), .int .i64 (tt : Int)] w fun e w' => e = .returned (.tuple #[]) ∧ RepQ w' rb n me lk log now its (fun k => if k = tt then true else ow k) ev wv ∧ Upd [some rb] w w' := by
  refine (oweG rb tt ht w (ow tt) (by rw [cell_of_heap hm.rbk]; exact repG_owed _ _ _ _ _ _ _ _ ht) (hm.f _)).mono ?_
  rintro e w' ⟨rfl, rfl⟩
  refine ⟨rfl, ⟨by rw [heap_setCell_same hm.rbk, repG_owe _ _ _ _ _ _ _ _ ht], owns_setCell_other hm.erow (fun b hb e => hm.eN (by rw [hb, e])) _, hm.eN, owns_setCell_other hm.wrow (fun b hb e => hm.wN (by rw [hb, e])) _, hm.wN, hm.ew, hm.heap⟩, (Upd.refl _ w).setCell (.inl (by simp)) _⟩

end Go.Proofs.YtckmppkdpnhodaaGreatDoor

namespace Go.Proofs.YtckmppkdpnhodaaGreatDoor
set_option linter.unusedVariables false
set_option linter.unusedSimpArgs false
open Go.RowKit Go.Proofs

attribute [local go_sem ↓] Go.wp_at_zero Go.wp_at_succ

/-- A reader in block q that has some bytes of block z ahead. -/
def Rd (w : World) (q z : Nat) (rest : List UInt8) : Prop :=
  ∃ off cap, w.heap[q]? = some (.cells #[.slice (some ⟨z, off, none⟩) rest.length cap, .bool false] 204 (0, 0)) ∧ rest.length ≤ cap ∧ cap ≤ 9223372036854775807 ∧ z ≠ q ∧ ∀ (i : Nat) (x : UInt8), rest[i]? = some x → w.cell? ⟨z, off + i, none⟩ = some (.int .u8 (x.toNat : Int))

theorem Rd.lt {w : World} {q z : Nat} {rest : List UInt8} (h : Rd w q z rest) : q < w.heap.size := by
  obtain ⟨off, cap, h1, -⟩ := h
  exact (Array.getElem?_eq_some_iff.1 h1).1

theorem heap_set1 {w : World} {q : Nat} {a b v : Value} {T : TypeId} (h : w.heap[q]? = some (.cells #[a, b] T (0, 0))) : (w.setCell ⟨q, 0, none⟩ v).heap[q]? = some (.cells #[v, b] T (0, 0)) := by
  rw [heap_setCell_same h]
  rfl

set_option maxRecDepth 100000 in
set_option maxHeartbeats 4000000 in
theorem takeG (q z n : Nat) (rest : List UInt8) (hn : n ≤ rest.length) (w : World) (hr : Rd w q z rest) :
    Calls Tryz.prog 168 #[.pointer (some ⟨q, 0, none⟩), .int .i64 (n : Int)] w fun e w' => ∃ off c, e = .returned (.slice (some ⟨z, off, none⟩) n c) ∧ n ≤ c ∧ BytesAt w' (.slice (some ⟨z, off, none⟩) n c) (rest.take n) ∧ Rd w' q z (rest.drop n) ∧ w'.cell? ⟨q, 1, none⟩ = some (.bool false) ∧ Upd [some q] w w' := by
  obtain ⟨off, cap, hh, hcap, hmax, hbq, hc⟩ := hr
  have hl := (Array.getElem?_eq_some_iff.1 hh).1
  have c0 : w.cell? ⟨q, 0, none⟩ = some (.slice (some ⟨z, off, none⟩) rest.length cap) := by rw [cell_of_heap hh]; rfl
  have f0 : w.frozen? ⟨q, 0, none⟩ = false := frozen_of_heap hh 0
  have HC : Hid (∀ (i : Nat) (x : UInt8), rest[i]? = some x → w.cell? ⟨z, off + i, none⟩ = some (.int .u8 (x.toNat : Int))) := hc
  have HH : Hid (w.heap[q]? = some (.cells #[.slice (some ⟨z, off, none⟩) rest.length cap, .bool false] 204 (0, 0))) := hh
  have e1 : ¬ (rest.length : Int) < (n : Int) := by omega
  clear hc hh
  obtain ⟨o2, ho2⟩ : ∃ o2, o2 = if n = cap then off else off + n := ⟨_, rfl⟩
  have key : ∀ W, W = w.setCell ⟨q, 0, none⟩ (.slice (some ⟨z, o2, none⟩) (rest.length - n) (cap - n)) → BytesAt W (.slice (some ⟨z, off, none⟩) n cap) (rest.take n) ∧ Rd W q z (rest.drop n) ∧ W.cell? ⟨q, 1, none⟩ = some (.bool false) ∧ Upd [some q] w W := by
    intro W hW
    have hu : Upd [some q] w W := by rw [hW]; exact (Upd.refl _ _).setCell (.inl (by simp)) _
    have hcell : ∀ (i : Nat) (x : UInt8), rest[i]? = some x → W.cell? ⟨z, off + i, none⟩ = some (.int .u8 (x.toNat : Int)) := fun i x hx => hu.cell (HC.out i x hx) (by simp; exact hbq)
    have hh2 : W.heap[q]? = some (.cells #[.slice (some ⟨z, o2, none⟩) (rest.length - n) (cap - n), .bool false] 204 (0, 0)) := by rw [hW]; exact heap_set1 HH.out
    refine ⟨⟨_, _, by rw [List.length_take, Nat.min_eq_left hn], fun i x hx => ⟨z, off, rfl, hcell i x ?_⟩⟩, ⟨o2, cap - n, by rw [List.length_drop]; exact hh2, by rw [List.length_drop]; omega, by omega, hbq, fun i x hx => ?_⟩, ?_, hu⟩
    · rw [List.getElem?_take] at hx
      split at hx
      · exact hx
      · cases hx
    · rw [List.getElem?_drop] at hx
      have hlt := (List.getElem?_eq_some_iff.1 hx).1
      rw [ho2, if_neg (by omega), Nat.add_assoc]
      exact hcell (n + i) x hx
    · rw [cell_of_heap hh2]
      rfl
  have HK : Hid (∀ W, W = w.setCell ⟨q, 0, none⟩ (.slice (some ⟨z, o2, none⟩) (rest.length - n) (cap - n)) → BytesAt W (.slice (some ⟨z, off, none⟩) n cap) (rest.take n) ∧ Rd W q z (rest.drop n) ∧ W.cell? ⟨q, 1, none⟩ = some (.bool false) ∧ Upd [some q] w W) := key
  clear key HC HH
  by_cases hnc : n = cap
  · subst hnc
    rw [if_pos rfl] at ho2
    subst ho2
    have hc0 : n - n = 0 := by omega
    rw [hc0] at HK
    go_enter Tryz.func168, Tryz.ntmps168
    go_wp2
    go_ret
    exact ⟨o2, n, rfl, by omega, HK.out _ (by rw [show rest.length - n = 0 by omega])⟩
  · rw [if_neg hnc] at ho2
    subst ho2
    have hnc2 : ¬ cap = n := fun e => hnc e.symm
    have hnc3 : ¬ cap - n = 0 := by omega
    go_enter Tryz.func168, Tryz.ntmps168
    go_wp2
    go_ret
    exact ⟨off, cap, rfl, by omega, HK.out _ rfl⟩

set_option maxRecDepth 100000 in
set_option maxHeartbeats 4000000 in
theorem oneG (q z : Nat) (x : UInt8) (rest : List UInt8) (w : World) (hr : Rd w q z (x :: rest)) :
    Calls Tryz.prog 167 #[.pointer (some ⟨q, 0, none⟩)] w fun e w' => e = .returned (.int .i64 (x.toNat : Int)) ∧ Rd w' q z rest ∧ Upd [some q] w w' := by
  have hx := x.toNat_lt
  have HT : Hid (Calls Tryz.prog 168 #[.pointer (some ⟨q, 0, none⟩), .int .i64 1] w fun e w' => ∃ off c, e = .returned (.slice (some ⟨z, off, none⟩) 1 c) ∧ 1 ≤ c ∧ w'.cell? ⟨z, off, none⟩ = some (.int .u8 (x.toNat : Int)) ∧ Rd w' q z rest ∧ w'.cell? ⟨q, 1, none⟩ = some (.bool false) ∧ Upd [some q] w w') := by
    refine (takeG q z 1 (x :: rest) (by simp) w hr).mono ?_
    rintro e w' ⟨off, c, h1, h2, ⟨p', c', h3, h4⟩, h5, h6, h7⟩
    refine ⟨off, c, h1, h2, ?_, h5, h6, h7⟩
    obtain ⟨b', off', hp, hcell⟩ := h4 0 x rfl
    rw [hp] at h3
    simp only [Value.slice.injEq, Option.some.injEq, Addr.mk.injEq, and_true] at h3
    obtain ⟨⟨rfl, rfl⟩, -⟩ := h3
    simpa using hcell
  have e1 : (x.toNat : Int) % 256 = x.toNat := by omega
  clear hr
  generalize hxn : x.toNat = xn at *
  have HX : Hid (x.toNat = xn) := hxn
  clear hxn
  go_enter Tryz.func167, Tryz.ntmps167
  go_wp2_with (go_at_call 168; refine HT.out.mono ?_; rintro e w2 ⟨off, c, rfl, hc1, hcell, hrd, hbad, hu⟩; have HRD : Hid (Rd w2 q z rest ∧ Upd [some q] w w2) := ⟨hrd, hu⟩; clear hrd hu)
  go_ret
  exact ⟨rfl, HRD.out⟩

end Go.Proofs.YtckmppkdpnhodaaGreatDoor

namespace Go.Proofs.YtckmppkdpnhodaaGreatDoor
set_option linter.unusedVariables false
set_option linter.unusedSimpArgs false
open Go.RowKit Go.Proofs

attribute [local go_sem ↓] Go.wp_at_zero Go.wp_at_succ

theorem oneHid {q z : Nat} {x : UInt8} {xn : Nat} {rest : List UInt8} {w : World} (hx : x.toNat = xn) (hr : Rd w q z (x :: rest)) :
    Hid (Calls Tryz.prog 167 #[.pointer (some ⟨q, 0, none⟩)] w fun e w' => e = .returned (.int .i64 (xn : Int)) ∧ Rd w' q z rest ∧ Upd [some q] w w') := by
  rw [← hx]
  exact oneG q z x rest w hr

set_option maxRecDepth 100000 in
set_option maxHeartbeats 8000000 in
theorem numberG (q z n : Nat) (hn : n < 72057594037927936) (t : List UInt8) (w : World) (hr : Rd w q z (numB n ++ t)) :
    Calls Tryz.prog 146 #[.pointer (some ⟨q, 0, none⟩)] w fun e w' => e = .returned (.int .i64 (n : Int)) ∧ Rd w' q z t ∧ Upd [some q] w w' := by
  have HR : Hid (Rd w q z (numB n ++ t)) := hr
  clear hr
  go_enter Tryz.func146, Tryz.ntmps146
  go_wp2
  go_loopw [3, 4] (fun a s wr => ∃ k pw acc m : Nat, k ≤ 7 ∧ s = .int .i64 ((7 * k : Nat) : Int) ∧ a = .int .i64 (acc : Int) ∧ Hid (pw = 128 ^ k ∧ acc = n % pw ∧ m = n / pw) ∧ Hid (Rd wr q z (numB m ++ t) ∧ Upd [some q] w wr)) (fun _ s _ => 56 - (intOf s).toNat)
  case atStart => exact ⟨0, 1, 0, n, by omega, rfl, rfl, ⟨rfl, by omega, by omega⟩, HR.out, Upd.refl _ _⟩
  case round =>
    obtain ⟨k, pw, acc, m, hk, rfl, rfl, HP, HI⟩ := hrel
    by_cases hlo : m < 128
    · have HO : Hid (Calls Tryz.prog 167 #[.pointer (some ⟨q, 0, none⟩)] wr fun e w' => e = .returned (.int .i64 (m : Int)) ∧ Rd w' q z t ∧ Upd [some q] wr w') := oneHid (x := UInt8.ofNat m) (by rw [UInt8.toNat_ofNat']; omega) (by have := HI.out.1; rwa [numB_lo hlo] at this)
      have HN : Hid (acc + m * pw = n) := by
        obtain ⟨h1, h2, h3⟩ := HP.out
        show acc + m * pw = n
        rw [h2, h3, Nat.mul_comm, Nat.mod_add_div]
      have hpw := HP.out.1
      have hacc : acc < 72057594037927936 := by have := HP.out.2.1; have := Nat.mod_le n pw; omega
      have eb : (m : Int) < 128 := by omega
      have ebm : (m : Int) % 128 = m := by omega
      rcases (show k = 0 ∨ k = 1 ∨ k = 2 ∨ k = 3 ∨ k = 4 ∨ k = 5 ∨ k = 6 ∨ k = 7 by omega) with rfl | rfl | rfl | rfl | rfl | rfl | rfl | rfl
      · obtain rfl : pw = 1 := hpw
        have hs : (acc : Int) + (m : Int) = (n : Int) := by have := HN.out; omega
        clear HN
        go_wp2_with (go_at_call 167; refine HO.out.mono ?_; rintro e w2 ⟨rfl, hw2⟩; have HW2 : Hid (Rd w2 q z t ∧ Upd [some q] wr w2) := hw2; clear hw2)
        go_ret
        exact ⟨rfl, HW2.out.1, HI.out.2.trans HW2.out.2 fun i hi => .inl hi⟩
      · obtain rfl : pw = 128 := hpw
        have hs : (acc : Int) + (m : Int) * 128 = (n : Int) := by have := HN.out; omega
        clear HN
        go_wp2_with (go_at_call 167; refine HO.out.mono ?_; rintro e w2 ⟨rfl, hw2⟩; have HW2 : Hid (Rd w2 q z t ∧ Upd [some q] wr w2) := hw2; clear hw2)
        go_ret
        exact ⟨rfl, HW2.out.1, HI.out.2.trans HW2.out.2 fun i hi => .inl hi⟩
      · obtain rfl : pw = 16384 := hpw
        have hs : (acc : Int) + (m : Int) * 16384 = (n : Int) := by have := HN.out; omega
        clear HN
        go_wp2_with (go_at_call 167; refine HO.out.mono ?_; rintro e w2 ⟨rfl, hw2⟩; have HW2 : Hid (Rd w2 q z t ∧ Upd [some q] wr w2) := hw2; clear hw2)
        go_ret
        exact ⟨rfl, HW2.out.1, HI.out.2.trans HW2.out.2 fun i hi => .inl hi⟩
      · obtain rfl : pw = 2097152 := hpw
        have hs : (acc : Int) + (m : Int) * 2097152 = (n : Int) := by have := HN.out; omega
        clear HN
        go_wp2_with (go_at_call 167; refine HO.out.mono ?_; rintro e w2 ⟨rfl, hw2⟩; have HW2 : Hid (Rd w2 q z t ∧ Upd [some q] wr w2) := hw2; clear hw2)
        go_ret
        exact ⟨rfl, HW2.out.1, HI.out.2.trans HW2.out.2 fun i hi => .inl hi⟩
      · obtain rfl : pw = 268435456 := hpw
        have hs : (acc : Int) + (m : Int) * 268435456 = (n : Int) := by have := HN.out; omega
        clear HN
        go_wp2_with (go_at_call 167; refine HO.out.mono ?_; rintro e w2 ⟨rfl, hw2⟩; have HW2 : Hid (Rd w2 q z t ∧ Upd [some q] wr w2) := hw2; clear hw2)
        go_ret
        exact ⟨rfl, HW2.out.1, HI.out.2.trans HW2.out.2 fun i hi => .inl hi⟩
      · obtain rfl : pw = 34359738368 := hpw
        have hs : (acc : Int) + (m : Int) * 34359738368 = (n : Int) := by have := HN.out; omega
        clear HN
        go_wp2_with (go_at_call 167; refine HO.out.mono ?_; rintro e w2 ⟨rfl, hw2⟩; have HW2 : Hid (Rd w2 q z t ∧ Upd [some q] wr w2) := hw2; clear hw2)
        go_ret
        exact ⟨rfl, HW2.out.1, HI.out.2.trans HW2.out.2 fun i hi => .inl hi⟩
      · obtain rfl : pw = 4398046511104 := hpw
        have hs : (acc : Int) + (m : Int) * 4398046511104 = (n : Int) := by have := HN.out; omega
        clear HN
        go_wp2_with (go_at_call 167; refine HO.out.mono ?_; rintro e w2 ⟨rfl, hw2⟩; have HW2 : Hid (Rd w2 q z t ∧ Upd [some q] wr w2) := hw2; clear hw2)
        go_ret
        exact ⟨rfl, HW2.out.1, HI.out.2.trans HW2.out.2 fun i hi => .inl hi⟩
      · obtain rfl : pw = 562949953421312 := hpw
        have hs : (acc : Int) + (m : Int) * 562949953421312 = (n : Int) := by have := HN.out; omega
        clear HN
        go_wp2_with (go_at_call 167; refine HO.out.mono ?_; rintro e w2 ⟨rfl, hw2⟩; have HW2 : Hid (Rd w2 q z t ∧ Upd [some q] wr w2) := hw2; clear hw2)
        go_ret
        exact ⟨rfl, HW2.out.1, HI.out.2.trans HW2.out.2 fun i hi => .inl hi⟩
    · obtain ⟨md, hmd⟩ : ∃ md, md = m % 128 := ⟨_, rfl⟩
      obtain ⟨xn, hxn⟩ : ∃ xn, xn = md + 128 := ⟨_, rfl⟩
      obtain ⟨acc2, hacc2⟩ : ∃ a2, a2 = acc + md * pw := ⟨_, rfl⟩
      have HO : Hid (Calls Tryz.prog 167 #[.pointer (some ⟨q, 0, none⟩)] wr fun e w' => e = .returned (.int .i64 (xn : Int)) ∧ Rd w' q z (numB (m / 128) ++ t) ∧ Upd [some q] wr w') := oneHid (x := UInt8.ofNat (m % 128 + 128)) (by rw [UInt8.toNat_ofNat']; omega) (by have := HI.out.1; rwa [numB_hi hlo] at this)
      have HN : Hid (acc2 = n % (pw * 128) ∧ m / 128 = n / (pw * 128)) := by
        obtain ⟨h1, h2, h3⟩ := HP.out
        refine ⟨?_, ?_⟩
        · rw [hacc2, hmd, h2, h3, Nat.mod_mul, Nat.mul_comm pw]
        · rw [h3, Nat.div_div_eq_div_mul]
      have hacc : acc2 < 72057594037927936 := by have := HN.out.1; have := Nat.mod_le n (pw * 128); omega
      have hm0 := HP.out.2.2
      have hpw := HP.out.1
      have eb : ¬ (xn : Int) < 128 := by omega
      have ebm : (xn : Int) % 128 = md := by omega
      have hacc0 : acc < 72057594037927936 := by have := HP.out.2.1; have := Nat.mod_le n pw; omega
      have hmd2 : md < 128 := by omega
      clear hmd hxn
      rcases (show k = 0 ∨ k = 1 ∨ k = 2 ∨ k = 3 ∨ k = 4 ∨ k = 5 ∨ k = 6 ∨ k = 7 by omega) with rfl | rfl | rfl | rfl | rfl | rfl | rfl | rfl
      · obtain rfl : pw = 1 := hpw
        have hs : (acc : Int) + (md : Int) = (acc2 : Int) := by omega
        clear hm0 hacc2
        go_wp2_with (go_at_call 167; refine HO.out.mono ?_; rintro e w2 ⟨rfl, hw2⟩; have HW2 : Hid (Rd w2 q z (numB (m / 128) ++ t) ∧ Upd [some q] wr w2) := hw2; clear hw2)
        go_roundw
        case rel => exact ⟨1, 128, acc2, m / 128, by omega, rfl, rfl, ⟨rfl, HN.out⟩, HW2.out.1, HI.out.2.trans HW2.out.2 fun i hi => .inl hi⟩
        case measure => simp [intOf]
      · obtain rfl : pw = 128 := hpw
        have hs : (acc : Int) + (md : Int) * 128 = (acc2 : Int) := by omega
        clear hm0 hacc2
        go_wp2_with (go_at_call 167; refine HO.out.mono ?_; rintro e w2 ⟨rfl, hw2⟩; have HW2 : Hid (Rd w2 q z (numB (m / 128) ++ t) ∧ Upd [some q] wr w2) := hw2; clear hw2)
        go_roundw
        case rel => exact ⟨2, 16384, acc2, m / 128, by omega, rfl, rfl, ⟨rfl, HN.out⟩, HW2.out.1, HI.out.2.trans HW2.out.2 fun i hi => .inl hi⟩
        case measure => simp [intOf]
      · obtain rfl : pw = 16384 := hpw
        have hs : (acc : Int) + (md : Int) * 16384 = (acc2 : Int) := by omega
        clear hm0 hacc2
        go_wp2_with (go_at_call 167; refine HO.out.mono ?_; rintro e w2 ⟨rfl, hw2⟩; have HW2 : Hid (Rd w2 q z (numB (m / 128) ++ t) ∧ Upd [some q] wr w2) := hw2; clear hw2)
        go_roundw
        case rel => exact ⟨3, 2097152, acc2, m / 128, by omega, rfl, rfl, ⟨rfl, HN.out⟩, HW2.out.1, HI.out.2.trans HW2.out.2 fun i hi => .inl hi⟩
        case measure => simp [intOf]
      · obtain rfl : pw = 2097152 := hpw
        have hs : (acc : Int) + (md : Int) * 2097152 = (acc2 : Int) := by omega
        clear hm0 hacc2
        go_wp2_with (go_at_call 167; refine HO.out.mono ?_; rintro e w2 ⟨rfl, hw2⟩; have HW2 : Hid (Rd w2 q z (numB (m / 128) ++ t) ∧ Upd [some q] wr w2) := hw2; clear hw2)
        go_roundw
        case rel => exact ⟨4, 268435456, acc2, m / 128, by omega, rfl, rfl, ⟨rfl, HN.out⟩, HW2.out.1, HI.out.2.trans HW2.out.2 fun i hi => .inl hi⟩
        case measure => simp [intOf]
      · obtain rfl : pw = 268435456 := hpw
        have hs : (acc : Int) + (md : Int) * 268435456 = (acc2 : Int) := by omega
        clear hm0 hacc2
        go_wp2_with (go_at_call 167; refine HO.out.mono ?_; rintro e w2 ⟨rfl, hw2⟩; have HW2 : Hid (Rd w2 q z (numB (m / 128) ++ t) ∧ Upd [some q] wr w2) := hw2; clear hw2)
        go_roundw
        case rel => exact ⟨5, 34359738368, acc2, m / 128, by omega, rfl, rfl, ⟨rfl, HN.out⟩, HW2.out.1, HI.out.2.trans HW2.out.2 fun i hi => .inl hi⟩
        case measure => simp [intOf]
      · obtain rfl : pw = 34359738368 := hpw
        have hs : (acc : Int) + (md : Int) * 34359738368 = (acc2 : Int) := by omega
        clear hm0 hacc2
        go_wp2_with (go_at_call 167; refine HO.out.mono ?_; rintro e w2 ⟨rfl, hw2⟩; have HW2 : Hid (Rd w2 q z (numB (m / 128) ++ t) ∧ Upd [some q] wr w2) := hw2; clear hw2)
        go_roundw
        case rel => exact ⟨6, 4398046511104, acc2, m / 128, by omega, rfl, rfl, ⟨rfl, HN.out⟩, HW2.out.1, HI.out.2.trans HW2.out.2 fun i hi => .inl hi⟩
        case measure => simp [intOf]
      · obtain rfl : pw = 4398046511104 := hpw
        have hs : (acc : Int) + (md : Int) * 4398046511104 = (acc2 : Int) := by omega
        clear hm0 hacc2
        go_wp2_with (go_at_call 167; refine HO.out.mono ?_; rintro e w2 ⟨rfl, hw2⟩; have HW2 : Hid (Rd w2 q z (numB (m / 128) ++ t) ∧ Upd [some q] wr w2) := hw2; clear hw2)
        go_roundw
        case rel => exact ⟨7, 562949953421312, acc2, m / 128, by omega, rfl, rfl, ⟨rfl, HN.out⟩, HW2.out.1, HI.out.2.trans HW2.out.2 fun i hi => .inl hi⟩
        case measure => simp [intOf]
      · obtain rfl : pw = 562949953421312 := hpw
        exfalso
        omega

end Go.Proofs.YtckmppkdpnhodaaGreatDoor

namespace Go.Proofs.YtckmppkdpnhodaaGreatDoor
set_option linter.unusedVariables false
set_option linter.unusedSimpArgs false
open Go.RowKit Go.Proofs

attribute [local go_sem ↓] Go.wp_at_zero Go.wp_at_succ

set_option maxRecDepth 100000 in
set_option maxHeartbeats 4000000 in
theorem replicaG (q z a : Nat) (ha : a < 5) (t : List UInt8) (w : World) (hr : Rd w q z (UInt8.ofNat a :: t)) :
    Calls Tryz.prog 145 #[.pointer (some ⟨q, 0, none⟩)] w fun e w' => e = .returned (.int .i64 (a : Int)) ∧ Rd w' q z t ∧ Upd [some q] w w' := by
  have HO : Hid (Calls Tryz.prog 167 #[.pointer (some ⟨q, 0, none⟩)] w fun e w' => e = .returned (.int .i64 (a : Int)) ∧ Rd w' q z t ∧ Upd [some q] w w') := oneHid (x := UInt8.ofNat a) (by rw [UInt8.toNat_ofNat']; omega) hr
  have e1 : ¬ (5 : Int) ≤ (a : Int) := by omega
  clear hr
  go_enter Tryz.func145, Tryz.ntmps145
  go_wp2_with (go_at_call 167; refine HO.out.mono ?_; rintro e w2 ⟨rfl, hw2⟩; have HW2 : Hid (Rd w2 q z t ∧ Upd [some q] w w2) := hw2; clear hw2)
  go_ret
  exact ⟨rfl, HW2.out⟩

theorem strB_data (s : ByteArray) : strB s.data.toList = s := by
  cases s
  simp [strB]

set_option maxRecDepth 100000 in
set_option maxHeartbeats 4000000 in
theorem textG (q z : Nat) (s : ByteArray) (hs : s.size < 256) (t : List UInt8) (w : World) (hr : Rd w q z (UInt8.ofNat s.size :: (s.data.toList ++ t))) :
    Calls Tryz.prog 147 #[.pointer (some ⟨q, 0, none⟩)] w fun e w' => e = .returned (.string s) ∧ Rd w' q z t ∧ Upd [some q] w w' := by
  have HO : Hid (Calls Tryz.prog 167 #[.pointer (some ⟨q, 0, none⟩)] w fun e w' => e = .returned (.int .i64 (s.size : Int)) ∧ Rd w' q z (s.data.toList ++ t) ∧ Upd [some q] w w') := oneHid (x := UInt8.ofNat s.size) (by rw [UInt8.toNat_ofNat']; omega) hr
  have HT : Hid (∀ W, Rd W q z (s.data.toList ++ t) → Calls Tryz.prog 168 #[.pointer (some ⟨q, 0, none⟩), .int .i64 (s.size : Int)] W fun e w' => ∃ off c, e = .returned (.slice (some ⟨z, off, none⟩) s.size c) ∧ (convert 55 9 (.slice (some ⟨z, off, none⟩) s.size c)).run Tryz.prog w' = .ok (.string s) w' ∧ Rd w' q z t ∧ Upd [some q] W w') := fun W hW => by
    have hl : s.data.toList.length = s.size := Array.length_toList
    refine (takeG q z s.size (s.data.toList ++ t) (by rw [List.length_append]; omega) W hW).mono ?_
    rintro e w' ⟨off, c, h1, h2, h3, h4, h5, h6⟩
    rw [List.take_left' hl] at h3
    rw [List.drop_left' hl] at h4
    refine ⟨off, c, h1, ?_, h4, h6⟩
    have := conv_bytes h3
    rw [strB_data] at this
    exact this
  clear hr
  go_enter Tryz.func147, Tryz.ntmps147
  go_wp2_with (first
    | (go_at_call 167; refine HO.out.mono ?_; rintro e w2 ⟨rfl, hw2⟩; have HW2 : Hid (Rd w2 q z (s.data.toList ++ t) ∧ Upd [some q] w w2) := hw2; clear hw2)
    | (go_at_call 168; refine (HT.out _ HW2.out.1).mono ?_; rintro e w3 ⟨off, c, rfl, hcv, hw3⟩; have HW3 : Hid (Rd w3 q z t ∧ Upd [some q] w2 w3) := hw3; clear hw3))
  go_ret
  exact ⟨rfl, HW3.out.1, HW2.out.2.trans HW3.out.2 fun i hi => .inl hi⟩

end Go.Proofs.YtckmppkdpnhodaaGreatDoor
