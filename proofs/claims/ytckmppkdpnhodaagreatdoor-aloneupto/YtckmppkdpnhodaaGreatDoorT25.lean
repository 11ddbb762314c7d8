/-
  Contracts of (ends).has, (Cart).put, HasItem, HasCoupon. Contracts of (Cart).put, HasItem, HasCoupon.
-/
import Derived.Test.YtckmppkdpnhodaaGreatDoorT24
namespace Go.Proofs.YtckmppkdpnhodaaGreatDoor
set_option linter.unusedVariables false
set_option linter.unusedSimpArgs false
open Go.RowKit Go.Proofs

attribute [local go_sem ↓] Go.wp_at_zero Go.wp_at_succ

/-- How many of the replica's commands what the entry put in has been ended by. -/
def goneM (E : List EnT) (x : EnT) : Nat :=
  match x.c.k with
  | .closed => (endMax .listen E x.c.word.data.toList).getD 0
  | .established => (endMax .finWait E x.c.word.data.toList).getD 0
  | .closeWait => noteMax E
  | _ => 0

theorem reachHasR (me g s : Nat) (hme : me < 5) (w : World) :
    Calls Tryz.prog 130 #[.agg #[.int .i64 ((rc me 0 g : Nat) : Int), .int .i64 ((rc me 1 g : Nat) : Int), .int .i64 ((rc me 2 g : Nat) : Int), .int .i64 ((rc me 3 g : Nat) : Int), .int .i64 ((rc me 4 g : Nat) : Int)], .int .i64 (me : Int), .int .i64 ((s : Int) + 1)] w fun e w' => e = .returned (.bool (decide (s + 1 ≤ g))) ∧ Below w.heap.size w w' :=
  reachHas_any (rc me 0 g) (rc me 1 g) (rc me 2 g) (rc me 3 g) (rc me 4 g) me (s + 1) hme g (by
    rcases (show me = 0 ∨ me = 1 ∨ me = 2 ∨ me = 3 ∨ me = 4 by omega) with rfl | rfl | rfl | rfl | rfl <;> simp [rc]) w

set_option maxRecDepth 100000 in
set_option maxHeartbeats 4000000 in
theorem has_ends (me b1 b2 n1 n2 : Nat) (hme : me < 5) (E : List EnT) (x : EnT) (w : World) (h1 : MapIs w b1 n1 (endsF .listen me E)) (h2 : MapIs w b2 n2 (endsF .finWait me E)) :
    Calls Tryz.prog 91 #[.agg (endCells me b1 b2 (noteMax E)), entVal me x] w fun e w' => e = .returned (.bool (decide (x.i + 1 ≤ goneM E x))) ∧ Below w.heap.size w w' := by
  have hw8 : x.c.word.size ≤ maxLen := by
    have := x.hc.word
    simp only [wordB, Bool.and_eq_true, decide_eq_true_eq] at this; unfold maxLen; omega
  have L1 : ∀ W, Below w.heap.size w W → (Instr.lookup 176 (.map (some b1)) (.string x.c.word) false).run Tryz.prog W = .ok (.agg #[.int .i64 ((rc me 0 ((endMax .listen E x.c.word.data.toList).getD 0) : Nat) : Int), .int .i64 ((rc me 1 ((endMax .listen E x.c.word.data.toList).getD 0) : Nat) : Int), .int .i64 ((rc me 2 ((endMax .listen E x.c.word.data.toList).getD 0) : Nat) : Int), .int .i64 ((rc me 3 ((endMax .listen E x.c.word.data.toList).getD 0) : Nat) : Int), .int .i64 ((rc me 4 ((endMax .listen E x.c.word.data.toList).getD 0) : Nat) : Int)]) W := fun W hW => by
    rw [(h1.below hW).look Tryz.underlying176 (Tryz.zeroValue104 W) x.c.word hw8]
    have e := endsF_getD .listen me E x.c.word.data.toList
    simp only [reachVal, ag5] at e
    rw [← e]
  have L2 : ∀ W, Below w.heap.size w W → (Instr.lookup 176 (.map (some b2)) (.string x.c.word) false).run Tryz.prog W = .ok (.agg #[.int .i64 ((rc me 0 ((endMax .finWait E x.c.word.data.toList).getD 0) : Nat) : Int), .int .i64 ((rc me 1 ((endMax .finWait E x.c.word.data.toList).getD 0) : Nat) : Int), .int .i64 ((rc me 2 ((endMax .finWait E x.c.word.data.toList).getD 0) : Nat) : Int), .int .i64 ((rc me 3 ((endMax .finWait E x.c.word.data.toList).getD 0) : Nat) : Int), .int .i64 ((rc me 4 ((endMax .finWait E x.c.word.data.toList).getD 0) : Nat) : Int)]) W := fun W hW => by
    rw [(h2.below hW).look Tryz.underlying176 (Tryz.zeroValue104 W) x.c.word hw8]
    have e := endsF_getD .finWait me E x.c.word.data.toList
    simp only [reachVal, ag5] at e
    rw [← e]
  have HH : Hid (∀ g W, Calls Tryz.prog 130 #[.agg #[.int .i64 ((rc me 0 g : Nat) : Int), .int .i64 ((rc me 1 g : Nat) : Int), .int .i64 ((rc me 2 g : Nat) : Int), .int .i64 ((rc me 3 g : Nat) : Int), .int .i64 ((rc me 4 g : Nat) : Int)], .int .i64 (me : Int), .int .i64 ((x.i : Int) + 1)] W fun e w' => e = .returned (.bool (decide (x.i + 1 ≤ g))) ∧ Below W.heap.size W w') := fun g W => reachHasR me g x.i hme W
  have HZ : Hid (∀ W, Calls Tryz.prog 130 #[.agg #[.int .i64 0, .int .i64 0, .int .i64 0, .int .i64 0, .int .i64 0], .int .i64 (me : Int), .int .i64 ((x.i : Int) + 1)] W fun e w' => e = .returned (.bool false) ∧ Below W.heap.size W w') := fun W => by
    have := reachHasR me 0 x.i hme W
    simpa [rc_zero] using this
  have hG : ∀ g, goneM E x = g → goneM E x = g := fun _ h => h
  have B3 : ∀ o1 o2 o3, Below w.heap.size w (((w.alloc o1).alloc o2).alloc o3) := fun o1 o2 o3 => (((Below.refl _ w).alloc (Nat.le_refl _) _).alloc (by simp) _).alloc (by simp; omega) _
  have HB3 : Hid (∀ o1 o2 o3, Below w.heap.size w (((w.alloc o1).alloc o2).alloc o3)) := B3
  clear B3 h1 h2 hw8
  simp only [entVal, endCells]
  cases hk : x.c.k with
  | closed =>
    have hg : goneM E x = (endMax .listen E x.c.word.data.toList).getD 0 := by simp [goneM, hk]
    rw [hg]
    have l3 := fun o1 o2 o3 => L1 _ (HB3.out o1 o2 o3)
    clear L1 L2 hG hg
    generalize (endMax .listen E x.c.word.data.toList).getD 0 = g at *
    simp only [Kd.num]
    go_enter Tryz.func91, Tryz.ntmps91
    go_wp2_with (go_at_call 130; refine (HH.out g _).mono ?_; rintro e w1 ⟨rfl, hb1⟩)
    have HB := (HB3.out _ _ _).trans (hb1.mono (HB3.out _ _ _).size)
    clear HB3
    go_ret
    exact ⟨rfl, HB⟩
  | established =>
    have hg : goneM E x = (endMax .finWait E x.c.word.data.toList).getD 0 := by simp [goneM, hk]
    rw [hg]
    have l3 := fun o1 o2 o3 => L2 _ (HB3.out o1 o2 o3)
    clear L1 L2 hG hg
    generalize (endMax .finWait E x.c.word.data.toList).getD 0 = g at *
    simp only [Kd.num]
    go_enter Tryz.func91, Tryz.ntmps91
    go_wp2_with (go_at_call 130; refine (HH.out g _).mono ?_; rintro e w1 ⟨rfl, hb1⟩)
    have HB := (HB3.out _ _ _).trans (hb1.mono (HB3.out _ _ _).size)
    clear HB3
    go_ret
    exact ⟨rfl, HB⟩
  | closeWait =>
    have hg : goneM E x = noteMax E := by simp [goneM, hk]
    rw [hg]
    clear L1 L2 hG hg
    generalize noteMax E = g at *
    simp only [Kd.num]
    go_enter Tryz.func91, Tryz.ntmps91
    go_wp2_with (go_at_call 130; refine (HH.out g _).mono ?_; rintro e w1 ⟨rfl, hb1⟩)
    have HB := (HB3.out _ _ _).trans (hb1.mono (HB3.out _ _ _).size)
    clear HB3
    go_ret
    exact ⟨rfl, HB⟩
  | listen =>
    have hg : goneM E x = 0 := by simp [goneM, hk]
    rw [hg]
    clear L1 L2 hG hg
    have hf : decide (x.i + 1 ≤ 0) = false := by simp
    rw [hf]
    clear hf
    simp only [Kd.num]
    go_enter Tryz.func91, Tryz.ntmps91
    go_wp2_with (go_at_call 130; refine (HZ.out _).mono ?_; rintro e w1 ⟨rfl, hb1⟩)
    have HB := (HB3.out _ _ _).trans (hb1.mono (HB3.out _ _ _).size)
    clear HB3
    go_ret
    exact ⟨rfl, HB⟩
  | finWait =>
    have hg : goneM E x = 0 := by simp [goneM, hk]
    rw [hg]
    clear L1 L2 hG hg
    have hf : decide (x.i + 1 ≤ 0) = false := by simp
    rw [hf]
    clear hf
    simp only [Kd.num]
    go_enter Tryz.func91, Tryz.ntmps91
    go_wp2_with (go_at_call 130; refine (HZ.out _).mono ?_; rintro e w1 ⟨rfl, hb1⟩)
    have HB := (HB3.out _ _ _).trans (hb1.mono (HB3.out _ _ _).size)
    clear HB3
    go_ret
    exact ⟨rfl, HB⟩

end Go.Proofs.YtckmppkdpnhodaaGreatDoor

namespace Go.Proofs.YtckmppkdpnhodaaGreatDoor
set_option linter.unusedVariables false
set_option linter.unusedSimpArgs false
open Go.RowKit Go.Proofs

/-- A cart: how many of each item, which coupons, which notes. -/
structure CartS where
  it : List UInt8 → Option Nat
  cp : List UInt8 → Bool
  no : List UInt8 → Bool

def CartS.empty : CartS := ⟨fun _ => none, fun _ => false, fun _ => false⟩

def itF (g : List UInt8 → Option Nat) : List UInt8 → Option Value := fun s => (g s).map fun m => .int .i64 (m : Int)
def seF (h : List UInt8 → Bool) : List UInt8 → Option Value := fun s => if h s then some (.agg #[]) else none

def putC (S : CartS) (c : Cm) : CartS :=
  match c.k with
  | .closed => ⟨fun s => if s = c.word.data.toList then some (min ((S.it c.word.data.toList).getD 0 + c.count) 999) else S.it s, S.cp, S.no⟩
  | .established => ⟨S.it, fun s => if s = c.word.data.toList then true else S.cp s, S.no⟩
  | .closeWait => ⟨S.it, S.cp, fun s => if s = c.word.data.toList then true else S.no s⟩
  | _ => S

theorem itF_put (g : List UInt8 → Option Nat) (s : List UInt8) (m : Nat) : fput (itF g) s (.int .i64 (m : Int)) = itF (fun x => if x = s then some m else g x) := by
  funext x; simp only [fput, itF]; split <;> rfl

theorem seF_put (h : List UInt8 → Bool) (s : List UInt8) : fput (seF h) s (.agg #[]) = seF (fun x => if x = s then true else h x) := by
  funext x; simp only [fput, seF]; split <;> rfl

theorem itF_getD (g : List UInt8 → Option Nat) (s : List UInt8) : ((itF g s).getD (.int .i64 0)) = .int .i64 (((g s).getD 0 : Nat) : Int) := by
  unfold itF; cases g s <;> rfl

/-- The three maps of a cart. -/
structure CartAt (w : World) (b1 b2 b3 n : Nat) (S : CartS) : Prop where
  m1 : MapIs w b1 n (itF S.it)
  m2 : MapIs w b2 n (seF S.cp)
  m3 : MapIs w b3 n (seF S.no)
  le : ∀ s m, S.it s = some m → m ≤ 999

theorem CartAt.below {w w' : World} {b1 b2 b3 n : Nat} {S : CartS} (h : CartAt w b1 b2 b3 n S) (hb : Below w.heap.size w w') : CartAt w' b1 b2 b3 n S := ⟨h.m1.below hb, h.m2.below hb, h.m3.below hb, h.le⟩

/-- What put leaves: new blocks, and one of the three maps turned. -/
structure PutTo (w : World) (b1 b2 b3 n : Nat) (S : CartS) (w' : World) : Prop where
  cart : CartAt w' b1 b2 b3 n S
  grown : ∃ w1 row, Below w.heap.size w w1 ∧ w1.grownBy w' row ∧ ∀ r, row = some r → r = b1 ∨ r = b2 ∨ r = b3

theorem putTo1 {w w1 w' : World} {b1 b2 b3 n : Nat} {S : CartS} {c : Cm} (h : CartAt w b1 b2 b3 n S) (h12 : b1 ≠ b2) (h13 : b1 ≠ b3) (hb : Below w.heap.size w w1) (hg : w1.grownBy w' (some b1)) (hk : c.k = .closed)
    (hm : MapIs w' b1 (n + 1) (fput (itF S.it) c.word.data.toList (.int .i64 ((min ((S.it c.word.data.toList).getD 0 + c.count) 999 : Nat) : Int)))) : PutTo w b1 b2 b3 (n + 1) (putC S c) w' := by
  have hc := h.below hb
  have k : ∀ b, b ≠ b1 → b < w1.heap.size → w'.heap[b]? = w1.heap[b]? := fun b hb hl => hg.block b hl (fun e => hb (by cases e; rfl))
  refine ⟨⟨?_, ?_, ?_, ?_⟩, w1, some b1, hb, hg, fun r e => by cases e; exact .inl rfl⟩
  · rw [itF_put] at hm; simpa [putC, hk] using hm
  · have := (hc.m2.same (k _ (Ne.symm h12) hc.m2.lt)).mono (Nat.le_succ n); simpa [putC, hk] using this
  · have := (hc.m3.same (k _ (Ne.symm h13) hc.m3.lt)).mono (Nat.le_succ n); simpa [putC, hk] using this
  · intro s m hs
    simp only [putC, hk] at hs
    split at hs
    · cases hs; omega
    · exact h.le s m hs

theorem putTo2 {w w1 w' : World} {b1 b2 b3 n : Nat} {S : CartS} {c : Cm} (h : CartAt w b1 b2 b3 n S) (h12 : b1 ≠ b2) (h23 : b2 ≠ b3) (hb : Below w.heap.size w w1) (hg : w1.grownBy w' (some b2)) (hk : c.k = .established)
    (hm : MapIs w' b2 (n + 1) (fput (seF S.cp) c.word.data.toList (.agg #[]))) : PutTo w b1 b2 b3 (n + 1) (putC S c) w' := by
  have hc := h.below hb
  have k : ∀ b, b ≠ b2 → b < w1.heap.size → w'.heap[b]? = w1.heap[b]? := fun b hb hl => hg.block b hl (fun e => hb (by cases e; rfl))
  refine ⟨⟨?_, ?_, ?_, ?_⟩, w1, some b2, hb, hg, fun r e => by cases e; exact .inr (.inl rfl)⟩
  · have := (hc.m1.same (k _ h12 hc.m1.lt)).mono (Nat.le_succ n); simpa [putC, hk] using this
  · rw [seF_put] at hm; simpa [putC, hk] using hm
  · have := (hc.m3.same (k _ (Ne.symm h23) hc.m3.lt)).mono (Nat.le_succ n); simpa [putC, hk] using this
  · intro s m hs
    simp only [putC, hk] at hs
    exact h.le s m hs

theorem putTo3 {w w1 w' : World} {b1 b2 b3 n : Nat} {S : CartS} {c : Cm} (h : CartAt w b1 b2 b3 n S) (h13 : b1 ≠ b3) (h23 : b2 ≠ b3) (hb : Below w.heap.size w w1) (hg : w1.grownBy w' (some b3)) (hk : c.k = .closeWait)
    (hm : MapIs w' b3 (n + 1) (fput (seF S.no) c.word.data.toList (.agg #[]))) : PutTo w b1 b2 b3 (n + 1) (putC S c) w' := by
  have hc := h.below hb
  have k : ∀ b, b ≠ b3 → b < w1.heap.size → w'.heap[b]? = w1.heap[b]? := fun b hb hl => hg.block b hl (fun e => hb (by cases e; rfl))
  refine ⟨⟨?_, ?_, ?_, ?_⟩, w1, some b3, hb, hg, fun r e => by cases e; exact .inr (.inr rfl)⟩
  · have := (hc.m1.same (k _ h13 hc.m1.lt)).mono (Nat.le_succ n); simpa [putC, hk] using this
  · have := (hc.m2.same (k _ h23 hc.m2.lt)).mono (Nat.le_succ n); simpa [putC, hk] using this
  · rw [seF_put] at hm; simpa [putC, hk] using hm
  · intro s m hs
    simp only [putC, hk] at hs
    exact h.le s m hs

theorem putTo0 {w w1 : World} {b1 b2 b3 n : Nat} {S : CartS} {c : Cm} (h : CartAt w b1 b2 b3 n S) (hb : Below w.heap.size w w1) (hk : putC S c = S) : PutTo w b1 b2 b3 (n + 1) (putC S c) w1 := by
  have hc := h.below hb
  rw [hk]
  exact ⟨⟨hc.m1.mono (Nat.le_succ n), hc.m2.mono (Nat.le_succ n), hc.m3.mono (Nat.le_succ n), h.le⟩, w1, none, hb, World.grownBy.refl _ _, fun r e => by cases e⟩

attribute [local go_sem ↓] Go.wp_at_zero Go.wp_at_succ

set_option maxRecDepth 100000 in
set_option maxHeartbeats 4000000 in
theorem put_any (b1 b2 b3 n : Nat) (h12 : b1 ≠ b2) (h13 : b1 ≠ b3) (h23 : b2 ≠ b3) (hn : n < 1000) (S : CartS) (c : Cm) (hc : CmOk c) (w : World) (h : CartAt w b1 b2 b3 n S) :
    Calls Tryz.prog 92 #[.agg #[.map (some b1), .map (some b2), .map (some b3)], .agg #[.int .i64 (c.k.num : Int), .string c.word, .int .i64 (c.count : Int)]] w fun e w' => e = .returned (.tuple #[]) ∧ PutTo w b1 b2 b3 (n + 1) (putC S c) w' := by
  have hw8 : c.word.size ≤ maxLen := by
    have := hc.word
    simp only [wordB, Bool.and_eq_true, decide_eq_true_eq] at this; unfold maxLen; omega
  have hnm : n < maxLen := by unfold maxLen; omega
  have B2 : ∀ o1 o2, Below w.heap.size w ((w.alloc o1).alloc o2) := fun o1 o2 => ((Below.refl _ w).alloc (Nat.le_refl _) _).alloc (by simp) _
  have HH : Hid (CartAt w b1 b2 b3 n S) := h
  cases hk : c.k with
  | listen =>
    have HP : Hid (putC S c = S) := by show _ = _; simp [putC, hk]
    simp only [Kd.num]
    go_enter Tryz.func92, Tryz.ntmps92
    go_wp2
    go_end0
    exact ⟨rfl, putTo0 HH.out (B2 _ _) HP.out⟩
  | finWait =>
    have HP : Hid (putC S c = S) := by show _ = _; simp [putC, hk]
    simp only [Kd.num]
    go_enter Tryz.func92, Tryz.ntmps92
    go_wp2
    go_end0
    exact ⟨rfl, putTo0 HH.out (B2 _ _) HP.out⟩
  | closeWait =>
    obtain ⟨w', L, hm, hg⟩ := (h.below (B2 (.cells #[.map (some b1), .map (some b2), .map (some b3)] 128) (.cells #[.int .i64 4, .string c.word, .int .i64 (c.count : Int)] 116))).m3.put Tryz.underlying126 hnm c.word hw8 (.agg #[])
    have HP : Hid (PutTo w b1 b2 b3 (n + 1) (putC S c) w') := putTo3 h h13 h23 (B2 _ _) hg hk hm
    clear h hm hg B2 HH
    simp only [Kd.num]
    go_enter Tryz.func92, Tryz.ntmps92
    go_wp2
    go_end0
    exact ⟨rfl, HP.out⟩
  | established =>
    obtain ⟨w', L, hm, hg⟩ := (h.below (B2 (.cells #[.map (some b1), .map (some b2), .map (some b3)] 128) (.cells #[.int .i64 2, .string c.word, .int .i64 (c.count : Int)] 116))).m2.put Tryz.underlying126 hnm c.word hw8 (.agg #[])
    have HP : Hid (PutTo w b1 b2 b3 (n + 1) (putC S c) w') := putTo2 h h12 h23 (B2 _ _) hg hk hm
    clear h hm hg B2 HH
    simp only [Kd.num]
    go_enter Tryz.func92, Tryz.ntmps92
    go_wp2
    go_end0
    exact ⟨rfl, HP.out⟩
  | closed =>
    have hle : (S.it c.word.data.toList).getD 0 ≤ 999 := by
      cases hs : S.it c.word.data.toList with
      | none => simp
      | some m => exact h.le _ m hs
    have hct := (hc.add hk).2
    have hb := h.below (B2 (.cells #[.map (some b1), .map (some b2), .map (some b3)] 128) (.cells #[.int .i64 0, .string c.word, .int .i64 (c.count : Int)] 116))
    have L1 := hb.m1.look Tryz.underlying125 (Tryz.zeroValue3 _) c.word hw8
    rw [itF_getD] at L1
    obtain ⟨w', L, hm, hg⟩ := hb.m1.put Tryz.underlying125 hnm c.word hw8 (.int .i64 ((min ((S.it c.word.data.toList).getD 0 + c.count) 999 : Nat) : Int))
    have HP : Hid (PutTo w b1 b2 b3 (n + 1) (putC S c) w') := putTo1 h h12 h13 (B2 _ _) hg hk hm
    clear h hm hg B2 HH hb
    generalize (S.it c.word.data.toList).getD 0 = m at *
    rw [show ((min (m + c.count) 999 : Nat) : Int) = min ((m : Int) + (c.count : Int)) 999 by omega] at L
    simp only [Kd.num]
    go_enter Tryz.func92, Tryz.ntmps92
    go_wp2
    go_end0
    exact ⟨rfl, HP.out⟩

theorem hasItem_any (b1 b2 b3 n : Nat) (S : CartS) (s : ByteArray) (hs : s.size ≤ maxLen) (w : World) (h : CartAt w b1 b2 b3 n S) :
    Calls Tryz.prog 85 #[.agg #[.map (some b1), .map (some b2), .map (some b3)], .string s] w fun e w' => e = .returned (.bool (S.it s.data.toList).isSome) ∧ Below w.heap.size w w' := by
  have B1 : Below w.heap.size w (w.alloc (.cells #[.map (some b1), .map (some b2), .map (some b3)] 128)) := (Below.refl _ w).alloc (Nat.le_refl _) _
  have L1 := (h.below B1).m1.lookOk Tryz.underlying125 (Tryz.zeroValue3 _) s hs
  rw [itF_getD, show (itF S.it s.data.toList).isSome = (S.it s.data.toList).isSome by unfold itF; cases S.it s.data.toList <;> rfl] at L1
  clear h
  generalize (S.it s.data.toList).isSome = p at *
  generalize (S.it s.data.toList).getD 0 = m at *
  go_enter Tryz.func85, Tryz.ntmps85
  go_wp2
  go_ret
  exact ⟨rfl, B1⟩

theorem hasCoupon_any (b1 b2 b3 n : Nat) (S : CartS) (s : ByteArray) (hs : s.size ≤ maxLen) (w : World) (h : CartAt w b1 b2 b3 n S) :
    Calls Tryz.prog 86 #[.agg #[.map (some b1), .map (some b2), .map (some b3)], .string s] w fun e w' => e = .returned (.bool (S.cp s.data.toList)) ∧ Below w.heap.size w w' := by
  have B1 : Below w.heap.size w (w.alloc (.cells #[.map (some b1), .map (some b2), .map (some b3)] 128)) := (Below.refl _ w).alloc (Nat.le_refl _) _
  have L1 := (h.below B1).m2.lookOk Tryz.underlying126 (Tryz.zeroValue94 _) s hs
  rw [show (seF S.cp s.data.toList).getD (.agg #[]) = .agg #[] by unfold seF; split <;> rfl, show (seF S.cp s.data.toList).isSome = S.cp s.data.toList by unfold seF; split <;> simp_all] at L1
  clear h
  generalize S.cp s.data.toList = p at *
  go_enter Tryz.func86, Tryz.ntmps86
  go_wp2
  go_ret
  exact ⟨rfl, B1.alloc (by simp) _⟩

end Go.Proofs.YtckmppkdpnhodaaGreatDoor
