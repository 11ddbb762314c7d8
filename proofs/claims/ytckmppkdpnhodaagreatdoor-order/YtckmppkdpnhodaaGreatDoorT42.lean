/-
  (*group).alike. Notes, purely: the carts. A group as the statements hold it: what each call does. Notes. What the rows' list gives, for replicas that hear of each other; Notes: its card. All that was done in a network; where all know all, each log holds just that.
-/
import Derived.Test.YtckmppkdpnhodaaGreatDoorT41
import Derived.Test.YtckmppkdpnhodaaGreatDoorT01
import Derived.Test.YtckmppkdpnhodaaGreatDoorCards
import Derived.Test.YtckmppkdpnhodaaGreatDoorTie
import Derived.ProofKit
import Derived.Deep.DeepHandedRow
namespace Go.Proofs.YtckmppkdpnhodaaGreatDoor
set_option linter.unusedVariables false
set_option linter.unusedSimpArgs false
open Go.RowKit Go.Proofs

attribute [local go_sem ↓] Go.wp_at_zero Go.wp_at_succ

theorem textIs_unique {C : CartS} {s t : ByteArray} (hs : TextIs C s) (ht : TextIs C t) : s = t := by
  obtain ⟨a1, a2, a3, ⟨p1, q1⟩, ⟨p2, q2⟩, ⟨p3, q3⟩, e⟩ := hs
  obtain ⟨b1, b2, b3, ⟨r1, s1⟩, ⟨r2, s2⟩, ⟨r3, s3⟩, f⟩ := ht
  have e1 := sorted_unique a1 b1 p1 r1 fun x => (q1 x).trans (s1 x).symm
  have e2 := sorted_unique a2 b2 p2 r2 fun x => (q2 x).trans (s2 x).symm
  have e3 := sorted_unique a3 b3 p3 r3 fun x => (q3 x).trans (s3 x).symm
  subst e1 e2 e3
  exact bytes_ext (e.trans f.symm)

theorem LogFrom.nodup {me : Nat} : ∀ {l pre : List En}, LogFrom me pre l → (∀ x ∈ l, cntL pre x.org < x.seq) ∧ l.Nodup
  | [], _, _ => ⟨by simp, List.nodup_nil⟩
  | x :: l, pre, h => by
    obtain ⟨h1, h2⟩ := LogFrom.nodup (l := l) h.2
    have hx := h.1.1
    refine ⟨fun y hy => ?_, List.nodup_cons.2 ⟨fun hm => ?_, h2⟩⟩
    · rcases List.mem_cons.1 hy with rfl | hy
      · omega
      · have := h1 y hy
        rw [cntL_append] at this
        omega
    · have := h1 x hm
      rw [cntL_snoc, if_pos rfl] at this
      omega

/-- Where all know all, all logs hold the same. -/
theorem AllKnow.perm {n : Nat} {S : Nat → Sr} (h : AllKnow n S) (hS : NetOk n S) {i j : Nat} (hi : i < n) (hj : j < n) : (S i).log.Perm (S j).log := by
  have key : ∀ {i j : Nat}, i < n → j < n → ∀ x ∈ (S i).log, x ∈ (S j).log := fun {i j} hi hj x hx => by
    have ho := (hS.one i hi).org x hx
    have hp := (hS.one i hi).log.place hx
    have c1 := h.cnt hS ho hi
    have c2 := h.cnt hS ho hj
    obtain ⟨y, hy, h1, h2⟩ := (hS.one j hj).log.the (o := x.org) (s := x.seq) hp.1 (by omega)
    have hx' := hS.src i hi x hx
    have hy' := hS.src j hj y hy
    rw [h1] at hy'
    rw [(hS.one _ ho).log.uniq hx' hy' h1.symm h2.symm]
    exact hy
  exact (List.perm_ext_iff_of_nodup (hS.one i hi).log.nodup.2 (hS.one j hj).log.nodup.2).2 fun x => ⟨key hi hj x, key hj hi x⟩

set_option maxRecDepth 100000 in
set_option maxHeartbeats 4000000 in
theorem alikeG {w0 W : World} {n LB NB : Nat} {S : Nat → Sr} {d : Side} {gb pb pc : Nat} (h : Grp w0 n LB NB S d gb pb pc W) (hg : Glob w0) (N : Nat) (hN : ∀ i, i < n → (S i).log.length = N) (C : CartS) (hC : ∀ i, i < n → cartG (S i).log (S i).log = C) :
    Calls Tryz.prog 22 #[.pointer (some ⟨gb, 0, none⟩), .int .i64 (N : Int)] W fun e w' => e = .returned (.bool true) ∧ Below W.heap.size W w' := by
  have hn5 := h.net.fit.n5
  have hn0 : (0 : Int) < (n : Int) := by omega
  have HG : Hid (∀ W', Below W.heap.size W W' → Grp w0 n LB NB S d gb pb pc W') := fun W' hW => h.below hW
  have HV : Hid (∀ i, i < n → ∀ W', Below W.heap.size W W' → Calls Tryz.prog 23 #[.pointer (some ⟨d.rb i, 0, none⟩)] W' fun e w' => ∃ s, e = .returned (.string s) ∧ Hid (TextIs C s) ∧ Below W.heap.size W w') := fun i hi W' hW => by
    refine (viewN (h.below hW).net hg hi).mono ?_
    rintro e w' ⟨s, he, ht, hb⟩
    rw [hC i hi] at ht
    exact ⟨s, he, ht, hW.trans (hb.mono hW.size)⟩
  have HK : Hid (∀ i, i < n → ∀ W', Below W.heap.size W W' → Calls Tryz.prog 28 #[.pointer (some ⟨d.rb i, 0, none⟩)] W' fun e w' => ∃ p c, e = .returned (.slice p N c) ∧ Below W.heap.size W w') := fun i hi W' hW => by
    refine (knownN (h.below hW).net hg hi).mono ?_
    rintro e w' ⟨p, c, he, -, hb⟩
    rw [hN i hi] at he
    exact ⟨p, c, he, hW.trans (hb.mono hW.size)⟩
  have c0 := h.c0
  have cp := h.ptr 0 (by omega)
  have HV0H : Hid (Calls Tryz.prog 23 #[.pointer (some ⟨d.rb 0, 0, none⟩)] W fun e w' => ∃ s, e = .returned (.string s) ∧ Hid (TextIs C s) ∧ Below W.heap.size W w') := HV.out 0 (by omega) W (Below.refl _ _)
  clear h hg hN hC
  generalize d.rb 0 = r0 at cp HV0H
  go_enter Tryz.func22, Tryz.ntmps22
  go_wp2_with (go_at_call 23; refine HV0H.out.mono ?_; rintro e w2 ⟨s0, rfl, HT0, hb2⟩)
  clear c0 cp
  go_loopw [6] (fun v wr => ∃ k : Nat, k ≤ n ∧ v = .int .i64 (k : Int) ∧ Hid (Below W.heap.size W wr)) (fun v _ => n - (intOf v).toNat)
  case atStart => exact ⟨0, by omega, rfl, hb2⟩
  case round =>
    obtain ⟨k, hk, rfl, HB⟩ := hrel
    have g0 := (HG.out wr HB.out).c0
    by_cases hlt : k < n
    · have gp := (HG.out wr HB.out).ptr k hlt
      have hki : (k : Int) < (n : Int) := by omega
      have HVk : Hid (Calls Tryz.prog 23 #[.pointer (some ⟨d.rb k, 0, none⟩)] wr fun e w' => e = .returned (.string s0) ∧ w'.cell? ⟨gb, 0, none⟩ = some (.slice (some ⟨pb, 0, none⟩) n pc) ∧ w'.cell? ⟨pb, k, none⟩ = some (.pointer (some ⟨d.rb k, 0, none⟩)) ∧ Hid (Below W.heap.size W w')) := by
        refine (HV.out k hlt wr HB.out).mono ?_
        rintro e w' ⟨s, he, ht, hb⟩
        have hg' := HG.out w' hb
        rw [textIs_unique ht.out HT0.out] at he
        exact ⟨he, hg'.c0, hg'.ptr k hlt, hb⟩
      have HKk : Hid (∀ W', Below W.heap.size W W' → Calls Tryz.prog 28 #[.pointer (some ⟨d.rb k, 0, none⟩)] W' fun e w' => ∃ p c, e = .returned (.slice p N c) ∧ Hid (Below W.heap.size W w')) := fun W' hW => HK.out k hlt W' hW
      generalize d.rb k = rbk at *
      go_wp2_with (first
        | (go_at_call 23; refine HVk.out.mono ?_; rintro e w3 ⟨rfl, k0, k1, HB3⟩)
        | (go_at_call 28; refine (HKk.out w3 HB3.out).mono ?_; rintro e w4 ⟨pk, ck, rfl, HB4⟩))
      go_roundw
      case rel => exact ⟨k + 1, by omega, by go_num, HB4⟩
      case measure => simp [intOf]; omega
    · obtain rfl : k = n := by omega
      go_wp2
      go_ret
      exact ⟨rfl, HB.out⟩

end Go.Proofs.YtckmppkdpnhodaaGreatDoor

namespace Go.Proofs.YtckmppkdpnhodaaGreatDoor
set_option linter.unusedVariables false
set_option linter.unusedSimpArgs false
open Go.RowKit Go.Proofs

/-- The note of a replica. -/
def noteC (j : Nat) : Cm := ⟨.closeWait, ⟨#[UInt8.ofNat (97 + j)]⟩, 0⟩
def noteZ : Cm := ⟨.closeWait, ⟨#[122]⟩, 0⟩

/-- A text with a note of each of the first k replicas. -/
def wantB (k : Nat) : ByteArray := ⟨((List.range k).flatMap fun j => [110, 111, 116, 101, 32, UInt8.ofNat (97 + j), 10]).toArray⟩

theorem reach0 (o : Nat) : (reachOf []).get o = 0 := by rw [reachOf_get]; rfl

theorem cart_notes {log : List En} (h : ∀ x ∈ log, x.c.k = .closeWait) (s : List UInt8) : (cartG log log).it s = none ∧ (cartG log log).cp s = false := by
  constructor
  · rw [cartG_it, if_pos]
    have : ∀ l : List En, (∀ x ∈ l, x ∈ log) → (l.map (cntG log s)).sum = 0 := fun l => by
      induction l with
      | nil => intro _; rfl
      | cons y l ih =>
        intro hy
        rw [List.map_cons, List.sum_cons, ih fun z hz => hy z (List.mem_cons_of_mem _ hz)]
        unfold cntG
        rw [if_neg fun hc => by have := h y (hy y (by simp)); rw [hc.1] at this; simp at this]
    exact this log fun _ h => h
  · rw [cartG_cp, List.any_eq_false]
    intro x hx hc
    simp only [isG, Bool.and_eq_true, decide_eq_true_eq] at hc
    have := h x hx
    rw [hc.1.1] at this
    simp at this

theorem notes1 {n : Nat} (hn : 2 ≤ n ∧ n ≤ 5) {log : List En} (h1 : ∀ x ∈ log, x.org < n ∧ x.seq = 1 ∧ x.ah = reachOf [] ∧ x.c = noteC x.org) (h2 : ∀ j, j < n → ∃ x ∈ log, x.org = j) : TextIs (cartG log log) (wantB n) := by
  have hk : ∀ x ∈ log, x.c.k = .closeWait := fun x hx => by rw [(h1 x hx).2.2.2]; rfl
  have hno : ∀ s, (cartG log log).no s = true ↔ ∃ j, j < n ∧ s = [UInt8.ofNat (97 + j)] := fun s => by
    rw [cartG_no, List.any_eq_true]
    constructor
    · rintro ⟨x, hx, hi⟩
      simp only [isG, Bool.and_eq_true, decide_eq_true_eq] at hi
      obtain ⟨q1, q2, q3, q4⟩ := h1 x hx
      refine ⟨x.org, q1, ?_⟩
      rw [← hi.1.2, q4]
      rfl
    · rintro ⟨j, hj, rfl⟩
      obtain ⟨x, hx, ho⟩ := h2 j hj
      obtain ⟨q1, q2, q3, q4⟩ := h1 x hx
      refine ⟨x, hx, ?_⟩
      simp only [isG, Bool.and_eq_true, decide_eq_true_eq]
      refine ⟨⟨hk x hx, by rw [q4, ho]; rfl⟩, (stG_iff (by omega)).2 fun y hy _ => ?_⟩
      rw [(h1 y hy).2.2.1, reach0]
      omega
  refine ⟨[], [], (List.range n).map fun j => [UInt8.ofNat (97 + j)], ⟨List.Pairwise.nil, fun x => by simp [(cart_notes hk x).1]⟩, ⟨List.Pairwise.nil, fun x => by simp [(cart_notes hk x).2]⟩, ⟨?_, fun x => ?_⟩, ?_⟩
  · rcases (show n = 2 ∨ n = 3 ∨ n = 4 ∨ n = 5 by omega) with rfl | rfl | rfl | rfl <;> decide
  · rw [hno, List.mem_map]
    constructor
    · rintro ⟨j, hj, rfl⟩; exact ⟨j, List.mem_range.1 hj, rfl⟩
    · rintro ⟨j, hj, rfl⟩; exact ⟨j, List.mem_range.2 hj, rfl⟩
  · rcases (show n = 2 ∨ n = 3 ∨ n = 4 ∨ n = 5 by omega) with rfl | rfl | rfl | rfl <;> rfl

/-- While the notes are being done: i are. -/
structure NoteI (n i : Nat) (S : Nat → Sr) : Prop where
  done : ∀ j, j < i → ∃ x, (S j).log = [x] ∧ x.org = j ∧ x.seq = 1 ∧ x.ah = reachOf [] ∧ x.c = noteC j
  rest : ∀ j, i ≤ j → S j = Sr.empty
  now : ∀ j, j < n → (S j).now = 0

theorem NoteI.step {n i : Nat} {S : Nat → Sr} (h : NoteI n i S) {x : En} (hxo : x.org = i) (hxs : x.seq = cntL (S i).log i + 1) (hxa : x.ah = reachOf (S i).log) (hxc : x.c = noteC i) : NoteI n (i + 1) (updS S i (doS n i (S i) x)) := by
  have he := h.rest i (Nat.le_refl _)
  rw [he] at hxs hxa
  refine ⟨fun j hj => ?_, fun j hj => ?_, fun j hj => ?_⟩
  · by_cases e : j = i
    · subst e
      rw [updS_same]
      exact ⟨x, by rw [he]; rfl, hxo, hxs, hxa, hxc⟩
    · rw [updS_other _ _ e]; exact h.done j (by omega)
  · rw [updS_other _ _ (by omega)]; exact h.rest j (by omega)
  · by_cases e : j = i
    · subst e; rw [updS_same]; exact h.now j hj
    · rw [updS_other _ _ e]; exact h.now j hj

theorem NoteI.own {n : Nat} {S : Nat → Sr} (h : NoteI n n S) {j : Nat} (hj : j < n) : ∃ x, ownL j (S j).log = [x] ∧ x.org = j ∧ x.seq = 1 ∧ x.ah = reachOf [] ∧ x.c = noteC j := by
  obtain ⟨x, h1, h2, h3⟩ := h.done j hj
  exact ⟨x, by rw [h1]; simp [ownL, h2], h2, h3⟩

/-- When all know all: the log. -/
theorem NoteI.log {n : Nat} {S S2 : Nat → Sr} (h : NoteI n n S) (hS : NetOk n S2) (ha : AllKnow n S2) (ho : ∀ i, i < n → ownL i (S2 i).log = ownL i (S i).log) {k : Nat} (hk : k < n) :
    (∀ x ∈ (S2 k).log, x.org < n ∧ x.seq = 1 ∧ x.ah = reachOf [] ∧ x.c = noteC x.org) ∧ ∀ j, j < n → ∃ x ∈ (S2 k).log, x.org = j := by
  constructor
  · intro x hx
    have hxo := (hS.one k hk).org x hx
    have hm : x ∈ ownL x.org (S2 x.org).log := mem_ownL.2 ⟨hS.src k hk x hx, rfl⟩
    obtain ⟨y, h1, h2, h3, h4, h5⟩ := h.own hxo
    rw [ho _ hxo, h1] at hm
    simp at hm
    rw [← hm] at h3 h4 h5
    exact ⟨hxo, h3, h4, h5⟩
  · intro j hj
    obtain ⟨y, h1, h2, -⟩ := h.own hj
    have hm : y ∈ ownL j (S2 j).log := by rw [ho j hj, h1]; simp
    exact ⟨y, (ha.perm hS hj hk).mem_iff.1 (mem_ownL.1 hm).1, h2⟩

end Go.Proofs.YtckmppkdpnhodaaGreatDoor

namespace Go.Proofs.YtckmppkdpnhodaaGreatDoor
set_option linter.unusedVariables false
set_option linter.unusedSimpArgs false
open Go.RowKit Go.Proofs

/-- A group whose replicas lie where rbs tells; what was there ahead of it stands. -/
def GrpR (w0 : World) (n LB NB gb pb pc : Nat) (rbs : Nat → Nat) (S : Nat → Sr) (W : World) : Prop :=
  ∃ d : Side, (∀ i, d.rb i = rbs i) ∧ Grp w0 n LB NB S d gb pb pc W ∧ W.os = w0.os ∧ W.tape = w0.tape ∧ W.output = w0.output

section
variable {w0 W W' : World} {n LB NB gb pb pc : Nat} {rbs : Nat → Nat} {S : Nat → Sr}

theorem GrpR.of {d : Side} {LB' : Nat} {S' : Nat → Sr} (h : GrpR w0 n LB NB gb pb pc rbs S W) (hd : ∃ d0, (∀ i, d0.rb i = rbs i) ∧ Grp w0 n LB' NB S' d gb pb pc W' ∧ StepM n W d0 W' d) : GrpR w0 n LB' NB gb pb pc rbs S' W' := by
  obtain ⟨-, -, -, h1, h2, h3⟩ := h
  obtain ⟨d0, hr, hg, hst⟩ := hd
  exact ⟨d, fun i => (hst.rb i).trans (hr i), hg, hst.os.trans h1, hst.tape.trans h2, hst.output.trans h3⟩

theorem GrpR.below (h : GrpR w0 n LB NB gb pb pc rbs S W) (hb : Below W.heap.size W W') : GrpR w0 n LB NB gb pb pc rbs S W' := by
  obtain ⟨d, hr, hg, h1, h2, h3⟩ := h
  exact ⟨d, hr, hg.below hb, hb.os.trans h1, hb.tape.trans h2, hb.output.trans h3⟩

theorem GrpR.c0 (h : GrpR w0 n LB NB gb pb pc rbs S W) : W.cell? ⟨gb, 0, none⟩ = some (.slice (some ⟨pb, 0, none⟩) n pc) := by
  obtain ⟨d, -, hg, -⟩ := h
  exact hg.c0

theorem GrpR.ptr (h : GrpR w0 n LB NB gb pb pc rbs S W) {i : Nat} (hi : i < n) : W.cell? ⟨pb, i, none⟩ = some (.pointer (some ⟨rbs i, 0, none⟩)) := by
  obtain ⟨d, hr, hg, -⟩ := h
  rw [← hr i]
  exact hg.ptr i hi

theorem GrpR.n5 (h : GrpR w0 n LB NB gb pb pc rbs S W) : 2 ≤ n ∧ n ≤ 5 := by
  obtain ⟨d, -, hg, -⟩ := h
  exact hg.net.fit.n5

theorem GrpR.ok (h : GrpR w0 n LB NB gb pb pc rbs S W) : NetOk n S := by
  obtain ⟨d, -, hg, -⟩ := h
  exact hg.net.ok

/-- The old memory stands. -/
theorem GrpR.old (h : GrpR w0 n LB NB gb pb pc rbs S W) : Below w0.heap.size w0 W := by
  obtain ⟨d, -, hg, h1, h2, h3⟩ := h
  exact ⟨h1, h2, h3, hg.net.size, fun b hb => (hg.net.old b hb).1⟩

theorem GrpR.rounds (h : GrpR w0 n LB NB gb pb pc rbs S W) (hg : Glob w0) (r : Nat) (hr : r ≤ 1000) (hnow : ∀ i, i < n → (S i).now + r ≤ NB) (bw tw : Bool) :
    Calls Tryz.prog 21 #[.pointer (some ⟨gb, 0, none⟩), .int .i64 (r : Int), .bool bw, .bool tw] W fun e w' => e = .returned (.bool true) ∧ ∃ S', Rnds n r S S' ∧ GrpR w0 n LB NB gb pb pc rbs S' w' ∧ ∀ i, i < n → (S' i).now = (S i).now + r := by
  obtain ⟨d, hrb, hgr, -⟩ := id h
  refine (roundsG hgr hg r hr hnow bw tw).mono ?_
  rintro e w' ⟨he, S', d', h1, h2, h3, h4⟩
  exact ⟨he, S', h1, h.of ⟨d, hrb, h2, h3⟩, h4⟩

theorem GrpR.alike (h : GrpR w0 n LB NB gb pb pc rbs S W) (hg : Glob w0) (N : Nat) (hN : ∀ i, i < n → (S i).log.length = N) (C : CartS) (hC : ∀ i, i < n → cartG (S i).log (S i).log = C) :
    Calls Tryz.prog 22 #[.pointer (some ⟨gb, 0, none⟩), .int .i64 (N : Int)] W fun e w' => e = .returned (.bool true) ∧ GrpR w0 n LB NB gb pb pc rbs S w' := by
  obtain ⟨d, hrb, hgr, -⟩ := id h
  refine (alikeG hgr hg N hN C hC).mono ?_
  rintro e w' ⟨he, hb⟩
  exact ⟨he, h.below hb⟩

theorem GrpR.view (h : GrpR w0 n LB NB gb pb pc rbs S W) (hg : Glob w0) {i : Nat} (hi : i < n) {t : ByteArray} (ht : TextIs (cartG (S i).log (S i).log) t) :
    Calls Tryz.prog 23 #[.pointer (some ⟨rbs i, 0, none⟩)] W fun e w' => e = .returned (.string t) ∧ GrpR w0 n LB NB gb pb pc rbs S w' := by
  obtain ⟨d, hrb, hgr, -⟩ := id h
  rw [← hrb i]
  refine (viewN hgr.net hg hi).mono ?_
  rintro e w' ⟨s, he, hs, hb⟩
  rw [textIs_unique hs ht] at he
  exact ⟨he, h.below hb⟩

/-- A command that is done. -/
theorem GrpR.do (h : GrpR w0 n LB NB gb pb pc rbs S W) (hg : Glob w0) {i : Nat} (hi : i < n) (hLB : totalS n S < LB) (s : ByteArray) (hs : s.size ≤ maxLen) {c : Cm} (hr : readC s = some c) (hgo : goesB (cartG (S i).log (S i).log) c = true) (ho : openI (S i).its < 8) :
    Calls Tryz.prog 20 #[.pointer (some ⟨rbs i, 0, none⟩), .string s] W fun e w' => e = .returned (.int .i64 0) ∧ ∃ x, x.c = c ∧ x.org = i ∧ x.seq = cntL (S i).log i + 1 ∧ x.ah = reachOf (S i).log ∧ GrpR w0 n LB NB gb pb pc rbs (updS S i (doS n i (S i) x)) w' := by
  obtain ⟨d, hrb, hgr, -⟩ := id h
  rw [← hrb i]
  refine (doN hgr.net hg hi hLB s hs).mono ?_
  rintro e w' (⟨q, -⟩ | ⟨c', q, q2, -⟩ | ⟨c', -, -, q, -⟩ | ⟨x, q1, -, -, q2, q3, q4, q5, d', q6, q7⟩)
  · rw [hr] at q; simp at q
  · rw [hr] at q
    obtain rfl := Option.some.inj q
    rw [hgo] at q2; simp at q2
  · omega
  · rw [hr] at q1
    exact ⟨q5, x, (Option.some.inj q1).symm, q2, q3, q4, h.of ⟨d, hrb, hgr.step q6 q7, q7⟩⟩

end

theorem begunR (n : Nat) (hn : 2 ≤ n ∧ n ≤ 5) (w : World) {LB NB : Nat} (hLB : LB ≤ 4294900000) (hNB : NB ≤ 1000000000000000) : Calls Tryz.prog 19 #[.int .i64 (n : Int)] w fun e w' => ∃ gb pb pc rbs, e = .returned (.pointer (some ⟨gb, 0, none⟩)) ∧ GrpR w n LB NB gb pb pc rbs (fun _ => Sr.empty) w' := by
  refine (begunG n hn w).mono ?_
  rintro e w' ⟨rbs, lv, he, hl, hB⟩
  obtain ⟨d, pb, pc, hg⟩ := hB.grp' (w0 := w) hn hl rfl (Nat.le_refl _) (fun _ _ => rfl) hLB hNB
  exact ⟨_, pb, pc, d.rb, he, d, fun _ => rfl, hg, hB.bel.os, hB.bel.tape, hB.bel.output⟩

set_option maxHeartbeats 400000 in
theorem pickK (c n : Int) (w : World) (hc : -9223372036854775808 ≤ c ∧ c ≤ 9223372036854775807) (hn : 0 < n ∧ n ≤ 100) :
    Calls Tryz.prog 18 #[.int .i64 c, .int .i64 n] w fun e w' => e = .returned (.int .i64 (pickN c n : Int)) ∧ w' = w := by
  obtain ⟨hc1, hc2⟩ := hc
  obtain ⟨hn1, hn2⟩ := hn
  have HP : Hid ((pickN c n : Int) = (if c < 0 then -(c + 1) else c) % n) := pickN_int hn1
  by_cases h : c < 0
  · have hp : 0 ≤ -(c + 1) := by omega
    go_enter Tryz.func18, Tryz.ntmps18
    go_wp2
    go_ret
    refine ⟨ret_int ?_, rfl⟩
    rw [HP.out, if_pos h, ← Int.neg_tmod, Int.tmod_eq_emod_of_nonneg hp]
  · go_enter Tryz.func18, Tryz.ntmps18
    go_wp2
    go_ret
    exact ⟨ret_int (by rw [HP.out, if_neg (by omega)]), rfl⟩

end Go.Proofs.YtckmppkdpnhodaaGreatDoor

namespace Go.Proofs.YtckmppkdpnhodaaGreatDoor
set_option linter.unusedVariables false
set_option linter.unusedSimpArgs false
open Go.RowKit Go.Proofs

attribute [local go_sem ↓] Go.wp_at_zero Go.wp_at_succ

/-- All notes are known everywhere. -/
structure Noted (n : Nat) (S S2 : Nat → Sr) : Prop where
  i : NoteI n n S
  ok : NetOk n S2
  all : AllKnow n S2
  own : ∀ i, i < n → ownL i (S2 i).log = ownL i (S i).log
  its : ∀ i, i < n → (S2 i).its = []
  tot : totalS n S2 = n
  now : ∀ i, i < n → (S2 i).now = 62

theorem Noted.cart {n : Nat} {S S2 : Nat → Sr} (h : Noted n S S2) {i j : Nat} (hi : i < n) (hj : j < n) : cartG (S2 i).log (S2 i).log = cartG (S2 j).log (S2 j).log := cartG_perm (h.all.perm h.ok hi hj)

theorem Noted.text {n : Nat} {S S2 : Nat → Sr} (h : Noted n S S2) (hn : 2 ≤ n ∧ n ≤ 5) {i : Nat} (hi : i < n) : TextIs (cartG (S2 i).log (S2 i).log) (wantB n) := by
  obtain ⟨h1, h2⟩ := h.i.log h.ok h.all h.own hi
  exact notes1 hn h1 h2

end Go.Proofs.YtckmppkdpnhodaaGreatDoor

namespace Go.Proofs.YtckmppkdpnhodaaGreatDoor
set_option linter.unusedVariables false
set_option linter.unusedSimpArgs false
open Go.ChangeShapes Go.WideShapes Go.ChangeAt Go.RowKit Go.Deep

theorem Tryz.ownK : ownKnob Tryz.prog.godebug = none := by kernel_rfl
theorem Tryz.gVerbsK : Tryz.prog.globalNamed "cartel/commands.verbs" = some 0 := by kernel_rfl
theorem Tryz.gVerbsTK : (Tryz.prog.globals[0]?).map (·.type) = some 221 := by kernel_rfl
theorem Tryz.cVerbsK : Tryz.prog.cellsOf 221 = 5 := by kernel_rfl
theorem Tryz.cStringK : Tryz.prog.cellsOf 9 = 1 := by kernel_rfl
theorem Tryz.gPowTK : (Tryz.prog.globals[3]?).map (·.type) = some 287 := by kernel_rfl
theorem Tryz.cPowK : Tryz.prog.cellsOf 287 = 20 := by kernel_rfl
theorem Tryz.cU64K : Tryz.prog.cellsOf 268 = 1 := by kernel_rfl
theorem Tryz.gRemK : Tryz.prog.globalNamed "cartel/wire.remainders" = some 1 := by kernel_rfl
theorem Tryz.gRemTK : (Tryz.prog.globals[1]?).map (·.type) = some 255 := by kernel_rfl
theorem Tryz.cRemK : Tryz.prog.cellsOf 255 = 16 := by kernel_rfl
theorem Tryz.cU32K : Tryz.prog.cellsOf 96 = 1 := by kernel_rfl

/-- What every row of this seat lists. -/
def laidK : List (String × DataW Unit) := Rows.notesRow.laid

theorem glob_of {W : World} (h : laidMetH Tryz.prog laidK W) : Glob W := by
  have h' : laidMet Tryz.prog laidK W := h
  have hp : PowAt W := tab_at Tryz.gPow Tryz.gPowTK Tryz.underlying287 Tryz.underlying268 Tryz.cU64K Tryz.cPowK h' (List.mem_cons_of_mem _ (List.mem_cons_of_mem _ (List.mem_cons_self ..)))
  have hr : Lib.TabIs Tryz.prog W "cartel/wire.remainders" .u32 (remTab.map fun n => ((n : Nat) : Int)) := tab_at Tryz.gRemK Tryz.gRemTK Tryz.underlying255 Tryz.underlying96 Tryz.cU32K Tryz.cRemK h' (List.mem_cons_of_mem _ (List.mem_cons_of_mem _ (List.mem_cons_of_mem _ (List.mem_cons_of_mem _ (List.mem_cons_self ..)))))
  have hs := strs_at (zs := [[97, 100, 100], [114, 101, 109, 111, 118, 101], [97, 112, 112, 108, 121], [114, 101, 118, 111, 107, 101], [110, 111, 116, 101]]) Tryz.gVerbsK Tryz.gVerbsTK Tryz.underlying221 Tryz.underlying9 Tryz.cStringK Tryz.cVerbsK h' (List.mem_cons_of_mem _ (List.mem_cons_of_mem _ (List.mem_cons_of_mem _ (List.mem_cons_self ..))))
  have hv : VerbsAt W := fun k => by
    cases k
    · exact hs 0 _ rfl
    · exact hs 1 _ rfl
    · exact hs 2 _ rfl
    · exact hs 3 _ rfl
    · exact hs 4 _ rfl
  have hR : RemAt W := fun i hi => by
    have hl : (remTab.map fun n => ((n : Nat) : Int)).length = 16 := by decide
    have h1 := Lib.TabIs.cell hr Tryz.gRemK i (by rw [hl]; exact hi)
    have h2 : ∀ i, i < 16 → (remTab.map fun n => ((n : Nat) : Int)).getD i 0 = ((remTab.getD i 0 : Nat) : Int) := by decide
    rw [h2 i hi] at h1
    exact h1
  exact ⟨hv, hp, hR, World.block_lt_of_cell? W _ (hv .closed), World.block_lt_of_cell? W _ (hR 0 (by omega))⟩

/-- A variable's block, with these cells in it. -/
def layCells (cs : Array Value) : Obj → Obj
  | .cells _ t frozen => .cells cs t frozen
  | o => o

theorem laid_metK (os : Os) (args : Array Value) : laidMet Tryz.prog laidK (({ World.holding Tryz.prog os ⟨#[], #[], []⟩ with heap := ((((((World.holding Tryz.prog os ⟨#[], #[], []⟩).heap.modify 0 (layCells #[.string ⟨#[97, 100, 100]⟩, .string ⟨#[114, 101, 109, 111, 118, 101]⟩, .string ⟨#[97, 112, 112, 108, 121]⟩, .string ⟨#[114, 101, 118, 111, 107, 101]⟩, .string ⟨#[110, 111, 116, 101]⟩])).modify 1 (layCells (([0, 498536548, 997073096, 651767980, 1994146192, 1802195444, 1303535960, 1342533948, 3988292384, 4027552580, 3604390888, 3412177804, 2607071920, 2262029012, 2685067896, 3183342108] : List Int).map fun z => Value.int .u32 z).toArray)).modify 3 (layCells (([1, 10, 100, 1000, 10000, 100000, 1000000, 10000000, 100000000, 1000000000, 10000000000, 100000000000, 1000000000000, 10000000000000, 100000000000000, 1000000000000000, 10000000000000000, 100000000000000000, 1000000000000000000, 10000000000000000000] : List Int).map fun z => Value.int .u64 z).toArray)).modify 4 (layCells (([0, 1, 28, 2, 29, 14, 24, 3, 30, 22, 20, 15, 25, 17, 4, 8, 31, 27, 13, 23, 21, 19, 16, 7, 26, 12, 18, 6, 11, 5, 10, 9] : List Int).map fun z => Value.int .u8 z).toArray)).modify 5 (layCells (([0, 1, 56, 2, 57, 49, 28, 3, 61, 58, 42, 50, 38, 29, 17, 4, 62, 47, 59, 36, 45, 43, 51, 22, 53, 39, 33, 30, 24, 18, 12, 5, 63, 55, 48, 27, 60, 41, 37, 16, 46, 35, 44, 21, 52, 32, 23, 11, 54, 26, 40, 15, 34, 20, 31, 10, 25, 14, 19, 9, 13, 8, 7, 6] : List Int).map fun z => Value.int .u8 z).toArray)) } : World).forCall (fun _ _ => 0) ⟨#[], args, []⟩).memory :=
  laidMet_of_run' 8 (by kernel_rfl) (by kernel_rfl)

theorem i64K {z : Int} (h : (Lit.int .i64 z).wf = true) : -9223372036854775808 ≤ z ∧ z ≤ 9223372036854775807 := by
  have h1 := (Lit.wf_int_iff .i64 z).1 h
  have e1 : IntKind.i64.min = -9223372036854775808 := by decide +kernel
  have e2 : IntKind.i64.max = 9223372036854775807 := by decide +kernel
  rw [e1, e2] at h1
  exact h1

end Go.Proofs.YtckmppkdpnhodaaGreatDoor

namespace Go.Proofs.YtckmppkdpnhodaaGreatDoor
set_option linter.unusedVariables false
set_option linter.unusedSimpArgs false
open Go.RowKit Go.Proofs

theorem flat_one {n i : Nat} (hi : i < n) {x : En} {f g : Nat → List En} (hg : ∀ j, j ≠ i → g j = f j) (hx : (g i).Perm (x :: f i)) : ((List.range n).flatMap g).Perm (x :: (List.range n).flatMap f) := by
  have key : ∀ m, ((List.range m).flatMap g).Perm (if i < m then x :: (List.range m).flatMap f else (List.range m).flatMap f) := fun m => by
    induction m with
    | zero => simp
    | succ m ih =>
      rw [List.range_succ, List.flatMap_append, List.flatMap_append]
      simp only [List.flatMap_cons, List.flatMap_nil, List.append_nil]
      by_cases h1 : i < m
      · rw [if_pos h1] at ih
        rw [if_pos (by omega), hg m (by omega)]
        exact ih.append_right _
      · rw [if_neg h1] at ih
        by_cases h2 : i = m
        · subst h2
          rw [if_pos (by omega)]
          exact (ih.append hx).trans List.perm_middle
        · rw [if_neg (by omega), hg m (by omega)]
          exact ih.append_right _
  have := key n
  rwa [if_pos hi] at this

/-- What all replicas have done. -/
def unionS (n : Nat) (S : Nat → Sr) : List En := (List.range n).flatMap fun i => ownL i (S i).log

theorem unionS_do {n i : Nat} (hi : i < n) {S : Nat → Sr} {x : En} (hx : x.org = i) : (unionS n (updS S i (doS n i (S i) x))).Perm (x :: unionS n S) := by
  refine flat_one hi (fun j hj => by rw [updS_other _ _ hj]) ?_
  rw [updS_same]
  show (ownL i ((S i).log ++ [x])).Perm _
  rw [ownL_snoc, if_pos hx]
  exact List.perm_append_comm

theorem unionS_congr {n : Nat} {S S' : Nat → Sr} (h : ∀ i, i < n → ownL i (S' i).log = ownL i (S i).log) : unionS n S' = unionS n S := by
  unfold unionS
  induction n with
  | zero => rfl
  | succ n ih =>
    rw [List.range_succ, List.flatMap_append, List.flatMap_append, ih fun i hi => h i (by omega)]
    simp only [List.flatMap_cons, List.flatMap_nil, List.append_nil]
    rw [h n (by omega)]

theorem own_parts {n : Nat} : ∀ {log : List En}, (∀ x ∈ log, x.org < n) → log.Perm ((List.range n).flatMap fun i => ownL i log)
  | [], _ => by
    have : (List.range n).flatMap (fun i => ownL i []) = [] := by simp [ownL]
    rw [this]
  | x :: l, h => by
    refine ((own_parts fun y hy => h y (List.mem_cons_of_mem _ hy)).cons x).trans (List.Perm.symm ?_)
    refine flat_one (h x (by simp)) (fun j hj => ?_) ?_
    · simp [ownL, Ne.symm hj]
    · simp [ownL]

theorem flat_perm {n : Nat} {f g : Nat → List En} (h : ∀ i, i < n → (f i).Perm (g i)) : ((List.range n).flatMap f).Perm ((List.range n).flatMap g) := by
  induction n with
  | zero => simp
  | succ n ih =>
    rw [List.range_succ, List.flatMap_append, List.flatMap_append]
    simp only [List.flatMap_cons, List.flatMap_nil, List.append_nil]
    exact (ih fun i hi => h i (by omega)).append (h n (by omega))

/-- Where all know all, a log holds what was done. -/
theorem AllKnow.union {n : Nat} {S : Nat → Sr} (h : AllKnow n S) (hS : NetOk n S) {k : Nat} (hk : k < n) : (S k).log.Perm (unionS n S) :=
  (own_parts (hS.one k hk).org).trans (flat_perm fun _ hi => (h.perm hS hk hi).filter _)

theorem cntL_perm {a b : List En} (h : a.Perm b) (o : Nat) : cntL a o = cntL b o := h.countP_eq _

/-- The network as it stands: what was done, the clock. -/
structure Sit (n : Nat) (S : Nat → Sr) (L : List En) (now : Nat) : Prop where
  un : (unionS n S).Perm L
  tot : totalS n S = L.length
  now : ∀ i, i < n → (S i).now = now

theorem Sit.empty (n : Nat) : Sit n (fun _ => Sr.empty) [] 0 := by
  refine ⟨?_, ?_, fun _ _ => rfl⟩
  · have : unionS n (fun _ => Sr.empty) = [] := by simp [unionS, ownL, Sr.empty]
    rw [this]
  · have : ∀ m, totalS m (fun _ => Sr.empty) = 0 := fun m => by
      unfold totalS
      induction m with
      | zero => rfl
      | succ m ih => rw [sumTo_succ, ih]; rfl
    exact this n

theorem Sit.do {n : Nat} {S : Nat → Sr} {L : List En} {now : Nat} (h : Sit n S L now) {i : Nat} (hi : i < n) {x : En} (hx : x.org = i) : Sit n (updS S i (doS n i (S i) x)) (L ++ [x]) now := by
  refine ⟨(unionS_do hi hx).trans ((h.un.cons x).trans ?_), by rw [totalS_do hi hx, h.tot]; simp, fun j hj => ?_⟩
  · exact (List.perm_append_comm (l₁ := [x]) (l₂ := L))
  · by_cases e : j = i
    · subst e; rw [updS_same]; exact h.now j hj
    · rw [updS_other _ _ e]; exact h.now j hj

/-- .. and where all know all, and nothing waits. -/
structure Calm (n : Nat) (S : Nat → Sr) (L : List En) (now : Nat) : Prop where
  sit : Sit n S L now
  ok : NetOk n S
  all : AllKnow n S
  its : ∀ i, i < n → (S i).its = []

theorem Calm.log {n : Nat} {S : Nat → Sr} {L : List En} {now : Nat} (h : Calm n S L now) {k : Nat} (hk : k < n) : (S k).log.Perm L := (h.all.union h.ok hk).trans h.sit.un

theorem Calm.cart {n : Nat} {S : Nat → Sr} {L : List En} {now : Nat} (h : Calm n S L now) {k : Nat} (hk : k < n) : cartG (S k).log (S k).log = cartG L L := cartG_perm (h.log hk)

section
variable {w0 W : World} {n LB NB gb pb pc : Nat} {rbs : Nat → Nat} {S : Nat → Sr} {L : List En} {now : Nat}

end

end Go.Proofs.YtckmppkdpnhodaaGreatDoor
