/-
  A replica in memory, whatever it knows. (*Replica).Tick; (*Replica).Do, where it is refused, whatever the replica knows. (*Replica).Do, where it is done: what it leaves, purely. (*Replica).Do, where it is done.
-/
import Derived.Test.YtckmppkdpnhodaaGreatDoorT10
import Derived.Test.YtckmppkdpnhodaaGreatDoorT11
import Derived.Test.YtckmppkdpnhodaaGreatDoorT14
import Derived.Test.YtckmppkdpnhodaaGreatDoorT15
import Derived.Test.YtckmppkdpnhodaaGreatDoorT16
import Derived.Deep.RegionHeld3
namespace Go.Proofs.YtckmppkdpnhodaaGreatDoor
set_option linter.unusedVariables false
set_option linter.unusedSimpArgs false
open Go.RowKit Go.Proofs Go.MuLone

def repG (lk : Int) (n me : Nat) (r : Rc) (now : Nat) (ow : Nat → Bool) (ev wv : Value) : Array Value :=
  #[.int .i32 lk, .int .u32 0, .int .i64 (me : Int), .int .i64 (n : Int), ev, .int .i64 (r.a : Int), .int .i64 (r.b : Int), .int .i64 (r.c : Int), .int .i64 (r.d : Int), .int .i64 (r.e : Int), .int .i64 (now : Int), wv, .bool (ow 0), .bool (ow 1), .bool (ow 2), .bool (ow 3), .bool (ow 4)]

theorem repG_reach (lk : Int) (n me : Nat) (r : Rc) (now : Nat) (ow : Nat → Bool) (ev wv : Value) {j : Nat} (hj : j < 5) : (repG lk n me r now ow ev wv)[5 + j]? = some (.int .i64 (r.get j : Int)) := by
  rcases (show j = 0 ∨ j = 1 ∨ j = 2 ∨ j = 3 ∨ j = 4 by omega) with rfl | rfl | rfl | rfl | rfl <;> simp [repG, Rc.get]

theorem repG_owed (lk : Int) (n me : Nat) (r : Rc) (now : Nat) (ow : Nat → Bool) (ev wv : Value) {j : Nat} (hj : j < 5) : (repG lk n me r now ow ev wv)[12 + j]? = some (.bool (ow j)) := by
  rcases (show j = 0 ∨ j = 1 ∨ j = 2 ∨ j = 3 ∨ j = 4 by omega) with rfl | rfl | rfl | rfl | rfl <;> simp [repG]

theorem repG_lock (lk lk' : Int) (n me : Nat) (r : Rc) (now : Nat) (ow : Nat → Bool) (ev wv : Value) : (repG lk n me r now ow ev wv).setIfInBounds 0 (.int .i32 lk') = repG lk' n me r now ow ev wv := by simp [repG]

theorem repG_box (lk : Int) (n me : Nat) (r : Rc) (now : Nat) (ow : Nat → Bool) (ev wv wv' : Value) : (repG lk n me r now ow ev wv).setIfInBounds 11 wv' = repG lk n me r now ow ev wv' := by simp [repG]

theorem repG_now (lk : Int) (n me : Nat) (r : Rc) (now now' : Nat) (ow : Nat → Bool) (ev wv : Value) : (repG lk n me r now ow ev wv).setIfInBounds 10 (.int .i64 (now' : Int)) = repG lk n me r now' ow ev wv := by simp [repG]

theorem repG_put (lk : Int) (n me : Nat) (r : Rc) (now : Nat) (ow : Nat → Bool) (ev wv ev' : Value) {o v : Nat} (ho : o < 5) : ((repG lk n me r now ow ev wv).setIfInBounds 4 ev').setIfInBounds (5 + o) (.int .i64 (v : Int)) = repG lk n me (r.set o v) now ow ev' wv := by
  rcases (show o = 0 ∨ o = 1 ∨ o = 2 ∨ o = 3 ∨ o = 4 by omega) with rfl | rfl | rfl | rfl | rfl <;> simp [repG, Rc.set]

theorem repG_owe (lk : Int) (n me : Nat) (r : Rc) (now : Nat) (ow : Nat → Bool) (ev wv : Value) {o : Nat} (ho : o < 5) : (repG lk n me r now ow ev wv).setIfInBounds (12 + o) (.bool true) = repG lk n me r now (fun k => if k = o then true else ow k) ev wv := by
  rcases (show o = 0 ∨ o = 1 ∨ o = 2 ∨ o = 3 ∨ o = 4 by omega) with rfl | rfl | rfl | rfl | rfl <;> simp [repG]

/-- A replica: its block (the lock in it), its log, what waits (as it lies), its time, what is owed. -/
structure RepQ (w : World) (rb n me : Nat) (lk : Int) (log : List En) (now : Nat) (its : List It) (ow : Nat → Bool) (ev wv : Value) : Prop where
  rbk : w.heap[rb]? = some (.cells (repG lk n me (reachOf log) now ow ev wv) 113 (0, 0))
  erow : w.ownsRow 0 122 10 ev log.length (enRow log)
  eN : ev.ownBlock ≠ some rb
  wrow : w.ownsRow 0 171 12 wv its.length (itRow its)
  wN : wv.ownBlock ≠ some rb
  ew : ∀ b, wv.ownBlock = some b → ev.ownBlock ≠ some b
  heap : HeapFrom 0 its.length (kF its)

section
variable {w w' : World} {rb n me : Nat} {lk : Int} {log : List En} {now : Nat} {its : List It} {ow : Nat → Bool} {ev wv : Value}

theorem RepQ.lt (h : RepQ w rb n me lk log now its ow ev wv) : rb < w.heap.size := (Array.getElem?_eq_some_iff.1 h.rbk).1

theorem RepQ.keep (h : RepQ w rb n me lk log now its ow ev wv) {S : List (Option Nat)} (hu : Upd S w w') (h1 : some rb ∉ S) (h2 : ∀ b, ev.ownBlock = some b → some b ∉ S) (h3 : ∀ b, wv.ownBlock = some b → some b ∉ S) : RepQ w' rb n me lk log now its ow ev wv :=
  ⟨(hu.block rb h.lt h1).trans h.rbk, hu.owns h.erow h2, h.eN, hu.owns h.wrow h3, h.wN, h.ew, h.heap⟩

theorem RepQ.below (h : RepQ w rb n me lk log now its ow ev wv) (hb : Below w.heap.size w w') : RepQ w' rb n me lk log now its ow ev wv := h.keep (Upd.of_below (S := []) hb) (by simp) (by simp) (by simp)

theorem RepQ.lock (h : RepQ w rb n me lk log now its ow ev wv) (lk' : Int) : RepQ (w.setCell ⟨rb, 0, none⟩ (.int .i32 lk')) rb n me lk' log now its ow ev wv :=
  ⟨by rw [heap_setCell_same h.rbk, repG_lock], owns_setCell_other h.erow (fun b hb e => h.eN (by rw [hb, e])) _, h.eN, owns_setCell_other h.wrow (fun b hb e => h.wN (by rw [hb, e])) _, h.wN, h.ew, h.heap⟩

theorem RepQ.ne0 (h : RepQ w rb n me lk log now its ow ev wv) (hv : VerbsAt w) : rb ≠ 0 := fun e => by
  subst e
  have := hv .closed
  rw [show (Kd.num Go.Tcp.closed) = 0 from rfl, cell_of_heap h.rbk] at this
  simp [repG] at this

theorem RepQ.nePow (h : RepQ w rb n me lk log now its ow ev wv) (hp : PowAt w) : rb ≠ 3 := fun e => by
  subst e
  have := Lib.TabIs.cell hp Tryz.gPow 0 (by decide)
  rw [cell_of_heap h.rbk] at this
  simp [repG] at this

theorem RepQ.qat (h : RepQ w rb n me lk log now its ow ev wv) : QAt w rb (repG lk n me (reachOf log) now ow ev wv) 113 wv its := ⟨h.rbk, rfl, h.wrow, h.wN⟩

theorem RepQ.c0 (h : RepQ w rb n me lk log now its ow ev wv) : w.cell? ⟨rb, 0, none⟩ = some (.int .i32 lk) := by rw [cell_of_heap h.rbk]; rfl
theorem RepQ.f (h : RepQ w rb n me lk log now its ow ev wv) (o : Nat) : w.frozen? ⟨rb, o, none⟩ = false := frozen_of_heap h.rbk o
theorem RepQ.c4 (h : RepQ w rb n me lk log now its ow ev wv) : w.cell? ⟨rb, 4, none⟩ = some ev := by rw [cell_of_heap h.rbk]; rfl
theorem RepQ.c10 (h : RepQ w rb n me lk log now its ow ev wv) : w.cell? ⟨rb, 10, none⟩ = some (.int .i64 (now : Int)) := by rw [cell_of_heap h.rbk]; rfl
theorem RepQ.c11 (h : RepQ w rb n me lk log now its ow ev wv) : w.cell? ⟨rb, 11, none⟩ = some wv := by rw [cell_of_heap h.rbk]; rfl

/-- Locked, memory made, unlocked. -/
theorem RepQ.relock {w2 : World} (h : RepQ w rb n me 0 log now its ow ev wv) (hb : Below w.heap.size (w.setCell ⟨rb, 0, none⟩ (.int .i32 1)) w2) : Below w.heap.size w (w2.setCell ⟨rb, 0, none⟩ (.int .i32 0)) := Go.Proofs.YtckmppkdpnhodaaGreatDoor.relock h.rbk rfl hb

end

set_option maxRecDepth 100000 in
set_option maxHeartbeats 4000000 in
theorem knownR {w : World} {rb n me : Nat} {log : List En} {now : Nat} {its : List It} {ow : Nat → Bool} {ev wv : Value} (hv : VerbsAt w) (hm : RepQ w rb n me 0 log now its ow ev wv) (h8 : log.length ≤ 4294967296) :
    Calls Tryz.prog 28 #[.pointer (some ⟨rb, 0, none⟩)] w fun e w' => ∃ p cap, e = .returned (.slice p log.length cap) ∧ w'.ownsRow w.heap.size 68 3 (.slice p log.length cap) log.length (opsRow log) ∧ Below w.heap.size w w' := by
  have hrl := hm.lt
  have hr0 := hm.ne0 hv
  have c0 := hm.c0
  have f0 := hm.f 0
  have HK : Hid (RepQ w rb n me 0 log now its ow ev wv) := hm
  have HO : Hid (Calls Tryz.prog 55 #[.pointer (some ⟨rb, 4, none⟩)] (w.setCell ⟨rb, 0, none⟩ (.int .i32 1)) fun e w' => ∃ p cap, e = .returned (.slice p log.length cap) ∧ w'.ownsRow w.heap.size 68 3 (.slice p log.length cap) log.length (opsRow log) ∧ Below w.heap.size (w.setCell ⟨rb, 0, none⟩ (.int .i32 1)) w') := by
    have := opsG rb log ev (w.setCell ⟨rb, 0, none⟩ (.int .i32 1)) (hv.lock hr0 _ _) (hm.lock 1).c4 (hm.lock 1).erow h8
    rwa [size_setCell] at this
  clear hm hv h8
  generalize hL : log.length = L at *
  go_enter_defers Tryz.func28, Tryz.ntmps28
  go_wp2_with (first
    | (go_at_call 44; refine (lock_free muLib ⟨rb, 0, none⟩ _ c0 f0).mono ?_; rintro e w' ⟨rfl, rfl⟩)
    | (go_at_call 55; refine HO.out.mono ?_; rintro e w2 ⟨p, cap, rfl, hown, hb⟩))
  refine leaves_cons (f := 45) (args := #[.pointer (some ⟨rb, 0, none⟩)]) (by simp) (by simp [go_sem]) ?_
  have hk2 := (HK.out.lock 1).below (by rw [size_setCell]; exact hb)
  refine (unlock_deferred muLib ⟨rb, 0, none⟩ .returning _ hk2.c0 (hk2.f 0)).mono ?_
  rintro e u' w'' ⟨rfl, rfl, rfl⟩
  refine ⟨_, results_tmp rfl _ _ _, p, cap, rfl, ?_, HK.out.relock hb⟩
  exact owns_setCell_other hown (fun b hb' => by have := (hown.lt b hb').1; show b ≠ rb; omega) _

/-- The words of a cart are short. -/
theorem cartG_word8 (log : List En) (x : List UInt8) : ((cartG log log).it x).isSome = true ∨ (cartG log log).cp x = true ∨ (cartG log log).no x = true → x.length ≤ 8 := by
  have key : ∀ y ∈ log, y.c.word.data.toList = x → x.length ≤ 8 := fun y _ e => by
    have hw := y.hc.word
    simp only [wordB, Bool.and_eq_true, decide_eq_true_eq] at hw
    have hl : y.c.word.data.toList.length = y.c.word.size := by rw [Array.length_toList]; rfl
    rw [← e]; omega
  rintro (h | h | h)
  · rw [cartG_it] at h
    split at h
    · simp at h
    · rename_i h0
      apply Classical.byContradiction
      intro hn
      apply h0
      have : ∀ l : List En, (∀ y ∈ l, y ∈ log) → (l.map (cntG log x)).sum = 0 := fun l => by
        induction l with
        | nil => intro _; rfl
        | cons y l ih =>
          intro hy
          rw [List.map_cons, List.sum_cons, ih fun z hz => hy z (List.mem_cons_of_mem _ hz)]
          unfold cntG
          rw [if_neg fun hc => hn (key y (hy y (by simp)) hc.2.1)]
      exact this log fun _ h => h
  · rw [cartG_cp, List.any_eq_true] at h
    obtain ⟨y, hy, h⟩ := h
    simp only [isG, Bool.and_eq_true, decide_eq_true_eq] at h
    exact key y hy h.1.2
  · rw [cartG_no, List.any_eq_true] at h
    obtain ⟨y, hy, h⟩ := h
    simp only [isG, Bool.and_eq_true, decide_eq_true_eq] at h
    exact key y hy h.1.2

set_option maxRecDepth 100000 in
set_option maxHeartbeats 4000000 in
theorem viewR {w : World} {rb n me : Nat} {log : List En} {now : Nat} {its : List It} {ow : Nat → Bool} {ev wv : Value} (hv : VerbsAt w) (hp : PowAt w) (hm : RepQ w rb n me 0 log now its ow ev wv) (h8 : log.length ≤ 4294967296) :
    Calls Tryz.prog 23 #[.pointer (some ⟨rb, 0, none⟩)] w fun e w' => ∃ s, e = .returned (.string s) ∧ TextIs (cartG log log) s ∧ Below w.heap.size w w' := by
  have hrp := hm.nePow hp
  have hrl := hm.lt
  have c0 := hm.c0
  have f0 := hm.f 0
  have HK : Hid (RepQ w rb n me 0 log now its ow ev wv) := hm
  obtain ⟨a, cap, hev⟩ := own_form hm.erow
  have HP : Hid (∀ W, Below w.heap.size (w.setCell ⟨rb, 0, none⟩ (.int .i32 1)) W → PowAt W) := fun W hW => (hp.lock hrp (.int .i32 1) 0).below hW (by rw [size_setCell]; exact Nat.le_refl _)
  have HA : Hid (Calls Tryz.prog 52 #[.pointer (some ⟨rb, 4, none⟩)] (w.setCell ⟨rb, 0, none⟩ (.int .i32 1)) fun e w' => e = .returned (.func (.func 131) #[] #[.pointer (some ⟨w.heap.size, 0, none⟩)]) ∧ Below w.heap.size (w.setCell ⟨rb, 0, none⟩ (.int .i32 1)) w' ∧
      Hid (Calls Tryz.prog 51 #[.func (.func 131) #[] #[.pointer (some ⟨w.heap.size, 0, none⟩)]] w' fun e W' =>
        ∃ c, e = .returned (.agg #[.map (some c), .map (some (c + 1)), .map (some (c + 1 + 1))]) ∧ Hid (CartAt W' c (c + 1) (c + 1 + 1) log.length (cartG log log) ∧ Below w.heap.size (w.setCell ⟨rb, 0, none⟩ (.int .i32 1)) W'))) := by
    have := ofAllG rb log h8 ev a cap hev (w.setCell ⟨rb, 0, none⟩ (.int .i32 1)) (hm.lock 1).c4 (hm.lock 1).erow
    rw [size_setCell] at this
    refine this.mono ?_
    rintro e w' ⟨rfl, hb, hu⟩
    refine ⟨rfl, hb, (hu w' (Below.refl _ _)).mono ?_⟩
    rintro e W' ⟨c, rfl, -, -, hc, hb'⟩
    exact ⟨c, rfl, hc, hb.trans (hb'.mono (by have := hb.size; rwa [size_setCell] at this))⟩
  have HT : Hid (∀ c W, Hid (CartAt W c (c + 1) (c + 1 + 1) log.length (cartG log log) ∧ Below w.heap.size (w.setCell ⟨rb, 0, none⟩ (.int .i32 1)) W) → Calls Tryz.prog 53 #[.agg #[.map (some c), .map (some (c + 1)), .map (some (c + 1 + 1))]] W fun e w' => ∃ s, e = .returned (.string s) ∧ Hid (TextIs (cartG log log) s) ∧ Below w.heap.size (w.setCell ⟨rb, 0, none⟩ (.int .i32 1)) w') := fun c W hW => by
    refine (ctext_any c (c + 1) (c + 1 + 1) log.length h8 _ (cartG_word8 log) W (HP.out W hW.out.2) hW.out.1).mono ?_
    rintro e w' ⟨s, rfl, ht, hb⟩
    exact ⟨s, rfl, ht, hW.out.2.trans (hb.mono (by have := hW.out.2.size; rwa [size_setCell] at this))⟩
  clear hev hv hp HP hrp h8 hm
  generalize cartG log log = S at *
  go_enter_defers Tryz.func23, Tryz.ntmps23
  go_wp2_with (first
    | (go_at_call 44; refine (lock_free muLib ⟨rb, 0, none⟩ _ c0 f0).mono ?_; rintro e w' ⟨rfl, rfl⟩)
    | (go_at_call 52; refine HA.out.mono ?_; rintro e w2 ⟨rfl, hb2, HO⟩)
    | (go_at_call 51; refine HO.out.mono ?_; rintro e w3 ⟨c1, rfl, hq3⟩)
    | (go_at_call 53; refine (HT.out c1 _ hq3).mono ?_; rintro e w4 ⟨s, rfl, hs4, hb⟩))
  have hk2 := (HK.out.lock 1).below (by rw [size_setCell]; exact hb)
  refine leaves_cons (f := 45) (args := #[.pointer (some ⟨rb, 0, none⟩)]) (by simp) (by simp [go_sem]) ?_
  refine (unlock_deferred muLib ⟨rb, 0, none⟩ .returning _ hk2.c0 (hk2.f 0)).mono ?_
  rintro e u' w'' ⟨rfl, rfl, rfl⟩
  exact ⟨_, results_tmp rfl _ _ _, s, rfl, hs4.out, HK.out.relock hb⟩

end Go.Proofs.YtckmppkdpnhodaaGreatDoor

namespace Go.Proofs.YtckmppkdpnhodaaGreatDoor
set_option linter.unusedVariables false
set_option linter.unusedSimpArgs false
open Go.RowKit Go.Proofs Go.MuLone

set_option maxRecDepth 100000 in
set_option maxHeartbeats 4000000 in
theorem tickR {w : World} {rb n me : Nat} {log : List En} {now : Nat} {its : List It} {ow : Nat → Bool} {ev wv : Value} (hm : RepQ w rb n me 0 log now its ow ev wv) (hn : now < 1152921504606846976) :
    Calls Tryz.prog 25 #[.pointer (some ⟨rb, 0, none⟩)] w fun e w' => e = .returned (.tuple #[]) ∧ RepQ w' rb n me 0 log (now + 1) its ow ev wv ∧ Upd [some rb] w w' := by
  have c0 := hm.c0
  have f0 := hm.f 0
  have HK : Hid (RepQ w rb n me 0 log now its ow ev wv) := hm
  have HT : Hid (Calls Tryz.prog 54 #[.pointer (some ⟨rb, 10, none⟩)] (w.setCell ⟨rb, 0, none⟩ (.int .i32 1)) fun e w' => e = .returned (.tuple #[]) ∧ Hid (w' = (w.setCell ⟨rb, 0, none⟩ (.int .i32 1)).setCell ⟨rb, 10, none⟩ (.int .i64 ((now + 1 : Nat) : Int)))) := tickG rb now hn _ (hm.lock 1).c10 ((hm.lock 1).f 10)
  clear hm
  go_enter_defers Tryz.func25, Tryz.ntmps25
  go_wp2_with (first
    | (go_at_call 44; refine (lock_free muLib ⟨rb, 0, none⟩ _ c0 f0).mono ?_; rintro e w' ⟨rfl, rfl⟩)
    | (go_at_call 54; refine HT.out.mono ?_; rintro e w2 ⟨rfl, hw2⟩))
  have h1 := HK.out.lock 1
  have hk2 : RepQ w2 rb n me 1 log (now + 1) its ow ev wv := by
    rw [hw2.out]
    exact ⟨by rw [heap_setCell_same h1.rbk, repG_now], owns_setCell_other h1.erow (fun b hb e => h1.eN (by rw [hb, e])) _, h1.eN, owns_setCell_other h1.wrow (fun b hb e => h1.wN (by rw [hb, e])) _, h1.wN, h1.ew, h1.heap⟩
  have hu : Upd [some rb] w w2 := by
    rw [hw2.out]
    exact ((Upd.refl _ w).setCell (.inl (by simp)) _).setCell (.inl (by simp)) _
  refine leaves_cons (f := 45) (args := #[.pointer (some ⟨rb, 0, none⟩)]) (by simp) (by simp [go_sem]) ?_
  refine (unlock_deferred muLib ⟨rb, 0, none⟩ .returning _ hk2.c0 (hk2.f 0)).mono ?_
  rintro e u' w'' ⟨rfl, rfl, rfl⟩
  exact ⟨_, results_none rfl _ _ _, rfl, hk2.lock 0, hu.setCell (.inl (by simp)) _⟩

set_option maxRecDepth 100000 in
set_option maxHeartbeats 4000000 in
theorem doR_bad {w : World} {rb n me : Nat} {log : List En} {now : Nat} {its : List It} {ow : Nat → Bool} {ev wv : Value} (hv : VerbsAt w) (hm : RepQ w rb n me 0 log now its ow ev wv) (s : ByteArray) (hs : s.size ≤ maxLen) (hr : readC s = none) :
    Calls Tryz.prog 20 #[.pointer (some ⟨rb, 0, none⟩), .string s] w fun e w' => e = .returned (.int .i64 2) ∧ Below w.heap.size w w' := by
  have c0 := hm.c0
  have f0 := hm.f 0
  have HK : Hid (RepQ w rb n me 0 log now its ow ev wv) := hm
  have HP : Hid (Calls Tryz.prog 46 #[.string s] (w.setCell ⟨rb, 0, none⟩ (.int .i32 1)) fun e w' => e = .returned (.tuple #[.agg #[.int .i64 0, .string ⟨#[]⟩, .int .i64 0], .bool false]) ∧ Below w.heap.size (w.setCell ⟨rb, 0, none⟩ (.int .i32 1)) w') := by
    have := parse_any s (w.setCell ⟨rb, 0, none⟩ (.int .i32 1)) hs (hv.lock (hm.ne0 hv) _ _)
    rw [hr, size_setCell] at this
    exact this
  clear hm hv hr hs
  go_enter_defers Tryz.func20, Tryz.ntmps20
  go_wp2_with (first
    | (go_at_call 44; refine (lock_free muLib ⟨rb, 0, none⟩ _ c0 f0).mono ?_; rintro e w' ⟨rfl, rfl⟩)
    | (go_at_call 46; refine HP.out.mono ?_; rintro e w2 ⟨rfl, hb⟩; have hb3 : ∀ o, Below w.heap.size (w.setCell ⟨rb, 0, none⟩ (.int .i32 1)) (w2.alloc o) := fun o => hb.alloc (by have := hb.size; rw [size_setCell] at this; exact this) o))
  have hk2 := (HK.out.lock 1).below (by rw [size_setCell]; exact hb3 (.cells #[.int .i64 0, .string ⟨#[]⟩, .int .i64 0] 116))
  refine leaves_cons (f := 45) (args := #[.pointer (some ⟨rb, 0, none⟩)]) (by simp) (by simp [go_sem]) ?_
  refine (unlock_deferred muLib ⟨rb, 0, none⟩ .returning _ hk2.c0 (hk2.f 0)).mono ?_
  rintro e u' w'' ⟨rfl, rfl, rfl⟩
  exact ⟨_, results_tmp rfl _ _ _, rfl, HK.out.relock (hb3 _)⟩

set_option maxRecDepth 100000 in
set_option maxHeartbeats 4000000 in
theorem doR_unk {w : World} {rb n me : Nat} {log : List En} {now : Nat} {its : List It} {ow : Nat → Bool} {ev wv : Value} (hv : VerbsAt w) (hm : RepQ w rb n me 0 log now its ow ev wv) (h8 : log.length ≤ 4294967296) (s : ByteArray) (hs : s.size ≤ maxLen) (cm : Cm) (hr : readC s = some cm) (hg : goesB (cartG log log) cm = false) :
    Calls Tryz.prog 20 #[.pointer (some ⟨rb, 0, none⟩), .string s] w fun e w' => e = .returned (.int .i64 3) ∧ Below w.heap.size w w' := by
  have c0 := hm.c0
  have f0 := hm.f 0
  have HK : Hid (RepQ w rb n me 0 log now its ow ev wv) := hm
  have HP : Hid (Calls Tryz.prog 46 #[.string s] (w.setCell ⟨rb, 0, none⟩ (.int .i32 1)) fun e w' => e = .returned (.tuple #[.agg #[.int .i64 (cm.k.num : Int), .string cm.word, .int .i64 (cm.count : Int)], .bool true]) ∧ Below w.heap.size (w.setCell ⟨rb, 0, none⟩ (.int .i32 1)) w') := by
    have := parse_any s (w.setCell ⟨rb, 0, none⟩ (.int .i32 1)) hs (hv.lock (hm.ne0 hv) _ _)
    rw [hr, size_setCell] at this
    exact this
  have hcm := (read_parts hr).1
  have HG : Hid (∀ W, Below w.heap.size (w.setCell ⟨rb, 0, none⟩ (.int .i32 1)) W → Calls Tryz.prog 47 #[.pointer (some ⟨rb, 0, none⟩), .agg #[.int .i64 (cm.k.num : Int), .string cm.word, .int .i64 (cm.count : Int)]] W fun e w' => e = .returned (.bool false) ∧ Below W.heap.size W w') := fun W hW => by
    have hk := (hm.lock 1).below (by rw [size_setCell]; exact hW)
    have := goesG rb log h8 ev W hk.c4 hk.erow cm hcm
    rw [hg] at this
    exact this
  clear hg hm hv hr hs hcm h8
  go_enter_defers Tryz.func20, Tryz.ntmps20
  go_wp2_with (first
    | (go_at_call 44; refine (lock_free muLib ⟨rb, 0, none⟩ _ c0 f0).mono ?_; rintro e w' ⟨rfl, rfl⟩)
    | (go_at_call 46; refine HP.out.mono ?_; rintro e w2 ⟨rfl, hb⟩; have hb3 : ∀ o, Below w.heap.size (w.setCell ⟨rb, 0, none⟩ (.int .i32 1)) (w2.alloc o) := fun o => hb.alloc (by have := hb.size; rw [size_setCell] at this; exact this) o)
    | (go_at_call 47; refine (HG.out _ (hb3 _)).mono ?_; rintro e w4 ⟨rfl, hb4⟩; have hb5 : Below w.heap.size (w.setCell ⟨rb, 0, none⟩ (.int .i32 1)) w4 := (hb3 _).trans (hb4.mono (by have := (hb3 (.map #[] 0)).size; rw [size_setCell] at this; simpa using this))))
  have hk2 := (HK.out.lock 1).below (by rw [size_setCell]; exact hb5)
  refine leaves_cons (f := 45) (args := #[.pointer (some ⟨rb, 0, none⟩)]) (by simp) (by simp [go_sem]) ?_
  refine (unlock_deferred muLib ⟨rb, 0, none⟩ .returning _ hk2.c0 (hk2.f 0)).mono ?_
  rintro e u' w'' ⟨rfl, rfl, rfl⟩
  exact ⟨_, results_tmp rfl _ _ _, rfl, HK.out.relock hb5⟩

set_option maxRecDepth 100000 in
set_option maxHeartbeats 4000000 in
theorem doR_full {w : World} {rb n me : Nat} {log : List En} {now : Nat} {its : List It} {ow : Nat → Bool} {ev wv : Value} (hv : VerbsAt w) (hm : RepQ w rb n me 0 log now its ow ev wv) (h8 : log.length ≤ 4294967296) (hi : its.length ≤ 1000) (s : ByteArray) (hs : s.size ≤ maxLen) (cm : Cm) (hr : readC s = some cm) (hg : goesB (cartG log log) cm = true) (ho : 8 ≤ openI its) :
    Calls Tryz.prog 20 #[.pointer (some ⟨rb, 0, none⟩), .string s] w fun e w' => e = .returned (.int .i64 4) ∧ Below w.heap.size w w' := by
  have c0 := hm.c0
  have f0 := hm.f 0
  have HK : Hid (RepQ w rb n me 0 log now its ow ev wv) := hm
  have HP : Hid (Calls Tryz.prog 46 #[.string s] (w.setCell ⟨rb, 0, none⟩ (.int .i32 1)) fun e w' => e = .returned (.tuple #[.agg #[.int .i64 (cm.k.num : Int), .string cm.word, .int .i64 (cm.count : Int)], .bool true]) ∧ Below w.heap.size (w.setCell ⟨rb, 0, none⟩ (.int .i32 1)) w') := by
    have := parse_any s (w.setCell ⟨rb, 0, none⟩ (.int .i32 1)) hs (hv.lock (hm.ne0 hv) _ _)
    rw [hr, size_setCell] at this
    exact this
  have hcm := (read_parts hr).1
  have HG : Hid (∀ W, Below w.heap.size (w.setCell ⟨rb, 0, none⟩ (.int .i32 1)) W → Calls Tryz.prog 47 #[.pointer (some ⟨rb, 0, none⟩), .agg #[.int .i64 (cm.k.num : Int), .string cm.word, .int .i64 (cm.count : Int)]] W fun e w' => e = .returned (.bool true) ∧ Below W.heap.size W w') := fun W hW => by
    have hk := (hm.lock 1).below (by rw [size_setCell]; exact hW)
    have := goesG rb log h8 ev W hk.c4 hk.erow cm hcm
    rw [hg] at this
    exact this
  have HO : Hid (∀ W, Below w.heap.size (w.setCell ⟨rb, 0, none⟩ (.int .i32 1)) W → Calls Tryz.prog 48 #[.pointer (some ⟨rb, 10, none⟩)] W fun e w' => e = .returned (.int .i64 ((openI its : Nat) : Int)) ∧ Below W.heap.size W w') := fun W hW => by
    have hk := (hm.lock 1).below (by rw [size_setCell]; exact hW)
    exact openG rb its hi wv W hk.c11 hk.wrow
  have hL8 : (8 : Int) ≤ ((openI its : Nat) : Int) := by omega
  clear hg hm hv hr hs hcm h8 hi ho
  generalize openI its = op at *
  go_enter_defers Tryz.func20, Tryz.ntmps20
  go_wp2_with (first
    | (go_at_call 44; refine (lock_free muLib ⟨rb, 0, none⟩ _ c0 f0).mono ?_; rintro e w' ⟨rfl, rfl⟩)
    | (go_at_call 46; refine HP.out.mono ?_; rintro e w2 ⟨rfl, hb⟩; have hb3 : ∀ o, Below w.heap.size (w.setCell ⟨rb, 0, none⟩ (.int .i32 1)) (w2.alloc o) := fun o => hb.alloc (by have := hb.size; rw [size_setCell] at this; exact this) o)
    | (go_at_call 47; refine (HG.out _ (hb3 _)).mono ?_; rintro e w4 ⟨rfl, hb4⟩; have hb5 : Below w.heap.size (w.setCell ⟨rb, 0, none⟩ (.int .i32 1)) w4 := (hb3 _).trans (hb4.mono (by have := (hb3 (.map #[] 0)).size; rw [size_setCell] at this; simpa using this)))
    | (go_at_call 48; refine (HO.out _ hb5).mono ?_; rintro e w6 ⟨rfl, hb6⟩; have hb7 : Below w.heap.size (w.setCell ⟨rb, 0, none⟩ (.int .i32 1)) w6 := hb5.trans (hb6.mono (by have := hb5.size; rw [size_setCell] at this; exact this))))
  have hk2 := (HK.out.lock 1).below (by rw [size_setCell]; exact hb7)
  refine leaves_cons (f := 45) (args := #[.pointer (some ⟨rb, 0, none⟩)]) (by simp) (by simp [go_sem]) ?_
  refine (unlock_deferred muLib ⟨rb, 0, none⟩ .returning _ hk2.c0 (hk2.f 0)).mono ?_
  rintro e u' w'' ⟨rfl, rfl, rfl⟩
  exact ⟨_, results_tmp rfl _ _ _, rfl, HK.out.relock hb7⟩

end Go.Proofs.YtckmppkdpnhodaaGreatDoor

namespace Go.Proofs.YtckmppkdpnhodaaGreatDoor
set_option linter.unusedVariables false
set_option linter.unusedSimpArgs false
open Go.RowKit Go.Proofs Go.MuLone

end Go.Proofs.YtckmppkdpnhodaaGreatDoor

namespace Go.Proofs.YtckmppkdpnhodaaGreatDoor
set_option linter.unusedVariables false
set_option linter.unusedSimpArgs false
open Go.RowKit Go.Proofs Go.MuLone

theorem cell_set10 (w : World) (eb : Nat) (v0 v1 v2 v3 v4 v5 v6 v7 v8 v9 : Value) (b o : Nat) (h : b ≠ eb) {v : Value} (hv : w.cell? ⟨b, o, none⟩ = some v) : ((((((((((w.setCell ⟨eb, 0, none⟩ v0).setCell ⟨eb, 1, none⟩ v1).setCell ⟨eb, 2, none⟩ v2).setCell ⟨eb, 3, none⟩ v3).setCell ⟨eb, 4, none⟩ v4).setCell ⟨eb, 5, none⟩ v5).setCell ⟨eb, 6, none⟩ v6).setCell ⟨eb, 7, none⟩ v7).setCell ⟨eb, 8, none⟩ v8).setCell ⟨eb, 9, none⟩ v9).cell? ⟨b, o, none⟩ = some v := by
  refine (World.cell?_of_block (a := ⟨b, o, none⟩) ?_).trans hv
  rw [Below.heap_setCell _ _ _ _ h, Below.heap_setCell _ _ _ _ h, Below.heap_setCell _ _ _ _ h, Below.heap_setCell _ _ _ _ h, Below.heap_setCell _ _ _ _ h, Below.heap_setCell _ _ _ _ h, Below.heap_setCell _ _ _ _ h, Below.heap_setCell _ _ _ _ h, Below.heap_setCell _ _ _ _ h, Below.heap_setCell _ _ _ _ h]

theorem set10 {w : World} {eb : Nat} (h : w.heap[eb]? = some (.cells #[.int .i64 0, .int .i64 0, .int .i64 0, .int .i64 0, .int .i64 0, .int .i64 0, .int .i64 0, .int .i64 0, .string { data := #[] }, .int .i64 0] 122 (0, 0))) (v0 v1 v2 v3 v4 v5 v6 v7 v8 v9 : Value) :
    ((((((((((w.setCell ⟨eb, 0, none⟩ v0).setCell ⟨eb, 1, none⟩ v1).setCell ⟨eb, 2, none⟩ v2).setCell ⟨eb, 3, none⟩ v3).setCell ⟨eb, 4, none⟩ v4).setCell ⟨eb, 5, none⟩ v5).setCell ⟨eb, 6, none⟩ v6).setCell ⟨eb, 7, none⟩ v7).setCell ⟨eb, 8, none⟩ v8).setCell ⟨eb, 9, none⟩ v9).heap[eb]? = some (.cells #[v0, v1, v2, v3, v4, v5, v6, v7, v8, v9] 122 (0, 0)) ∧ Upd [some eb] w ((((((((((w.setCell ⟨eb, 0, none⟩ v0).setCell ⟨eb, 1, none⟩ v1).setCell ⟨eb, 2, none⟩ v2).setCell ⟨eb, 3, none⟩ v3).setCell ⟨eb, 4, none⟩ v4).setCell ⟨eb, 5, none⟩ v5).setCell ⟨eb, 6, none⟩ v6).setCell ⟨eb, 7, none⟩ v7).setCell ⟨eb, 8, none⟩ v8).setCell ⟨eb, 9, none⟩ v9) := by
  refine ⟨?_, (((((((((((Upd.refl _ w).setCell (.inl (by simp)) _).setCell (.inl (by simp)) _).setCell (.inl (by simp)) _).setCell (.inl (by simp)) _).setCell (.inl (by simp)) _).setCell (.inl (by simp)) _).setCell (.inl (by simp)) _).setCell (.inl (by simp)) _).setCell (.inl (by simp)) _).setCell (.inl (by simp)) _)⟩
  rw [(heap_setCell_same (heap_setCell_same (heap_setCell_same (heap_setCell_same (heap_setCell_same (heap_setCell_same (heap_setCell_same (heap_setCell_same (heap_setCell_same (heap_setCell_same h _) _) _) _) _) _) _) _) _) _)]
  simp

theorem cell_alloc' (w : World) (o : Obj) (b k : Nat) {v : Value} (hv : w.cell? ⟨b, k, none⟩ = some v) : (w.alloc o).cell? ⟨b, k, none⟩ = some v :=
  (World.cell?_of_block (a := ⟨b, k, none⟩) (Below.heap_alloc w o b (World.block_lt_of_cell? w _ hv))).trans hv

end Go.Proofs.YtckmppkdpnhodaaGreatDoor
