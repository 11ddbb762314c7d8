/-
  (*Replica).Do, where it is refused. Contract of (*Replica).View. (*Replica).Do, where it is done: what it leaves, purely.
-/
import Derived.Test.YtckmppkdpnhodaaGreatDoorT31
import Derived.Test.YtckmppkdpnhodaaGreatDoorT27
import Derived.Test.YtckmppkdpnhodaaGreatDoorT32
import Derived.Defers
import Derived.Test.YtckmppkdpnhodaaGreatDoorT29
namespace Go.Proofs.YtckmppkdpnhodaaGreatDoor
set_option linter.unusedVariables false
set_option linter.unusedSimpArgs false
open Go.RowKit Go.Proofs Go.MuLone

/-- The replica locked. -/
structure Lkd (w : World) (rb n me : Nat) (log : List Cm) (ev wv : Value) (wl : World) : Prop where
  size : wl.heap.size = w.heap.size
  rbk : wl.heap[rb]? = some (.cells ((repC n me log.length ev wv).setIfInBounds 0 (.int .i32 1)) 113 (0, 0))
  verbs : VerbsAt wl
  erow : wl.ownsRow 0 122 10 ev log.length (logCells me log)
  wrow : wl.ownsRow 0 171 12 wv (log.length * (n - 1)) (boxCells n me log)

theorem RepM.lkd {w : World} {rb n me : Nat} {log : List Cm} {F : Nat → Prop} {ev wv : Value} (h : RepM w rb n me log F ev wv) (hv : VerbsAt w) : Lkd w rb n me log ev wv (w.setCell ⟨rb, 0, none⟩ (.int .i32 1)) :=
  ⟨size_setCell _ _ _, heap_setCell_same h.rbk _, hv.lock (h.ne0 hv) _ _, owns_setCell_other h.erow (fun b hb => (h.eF b hb).2) _, owns_setCell_other h.wrow (fun b hb => (h.wF b hb).2.1) _⟩

theorem Lkd.below {w : World} {rb n me : Nat} {log : List Cm} {ev wv : Value} {wl W : World} (h : Lkd w rb n me log ev wv wl) (hb : Below wl.heap.size wl W) (hs : W.heap.size = W.heap.size := rfl) :
    W.heap[rb]? = some (.cells ((repC n me log.length ev wv).setIfInBounds 0 (.int .i32 1)) 113 (0, 0)) ∧ W.ownsRow 0 122 10 ev log.length (logCells me log) ∧ W.ownsRow 0 171 12 wv (log.length * (n - 1)) (boxCells n me log) :=
  ⟨(hb.block rb (Array.getElem?_eq_some_iff.1 h.rbk).1).trans h.rbk, (Upd.of_below (S := []) hb).owns h.erow (by simp), (Upd.of_below (S := []) hb).owns h.wrow (by simp)⟩

theorem rc_if (me j i : Nat) : rc me j i = if j = me then i else 0 := rfl

theorem openDo {w : World} {rb n me : Nat} {log : List Cm} {F : Nat → Prop} {ev wv : Value} (h : RepM w rb n me log F ev wv) {wl W : World} (hl : Lkd w rb n me log ev wv wl) (hb : Below wl.heap.size wl W) :
    Calls Tryz.prog 48 #[.pointer (some ⟨rb, 10, none⟩)] W fun e w' => e = .returned (.int .i64 (log.length : Int)) ∧ Below W.heap.size W w' := by
  obtain ⟨h1, -, h3⟩ := hl.below hb
  rw [boxCells_eq, ← boxItems_length h.hn h.hme] at h3
  have hh := h.hn
  have h8 := h.le8
  have ht : ∀ p ∈ boxItems n me log.length, p.1 < 5 := fun p hp => by
    simp only [boxItems, others, List.mem_flatMap, List.mem_map, List.mem_filter, List.mem_range] at hp
    obtain ⟨a, -, b, ⟨hb, -⟩, rfl⟩ := hp
    show b < 5
    omega
  have := open_any rb me log (boxItems n me log.length) ht (by rw [boxItems_length h.hn h.hme]; have : log.length * (n - 1) ≤ 8 * 4 := Nat.mul_le_mul h8 (by omega); omega) wv W (by rw [cell_of_heap h1]; rfl) h3
  rwa [openN_box h.hn h.hme] at this

theorem goesDo {w : World} {rb n me : Nat} {log : List Cm} {F : Nat → Prop} {ev wv : Value} (h : RepM w rb n me log F ev wv) {wl W : World} (hl : Lkd w rb n me log ev wv wl) (hb : Below wl.heap.size wl W) (c : Cm) (hc : CmOk c) :
    Calls Tryz.prog 47 #[.pointer (some ⟨rb, 0, none⟩), .agg #[.int .i64 (c.k.num : Int), .string c.word, .int .i64 (c.count : Int)]] W fun e w' => e = .returned (.bool (goesB (logCart log h.le8 h.ok) c)) ∧ Below W.heap.size W w' := by
  obtain ⟨h1, h2, -⟩ := hl.below hb
  have hh := h.hn
  have hm := h.hme
  exact goes_any rb me (by omega) log h.le8 h.ok ev W (by rw [cell_of_heap h1]; rfl) h2 c hc


/-- The door: what was locked is unlocked. -/
theorem unlocked {w W : World} {rb n me : Nat} {log : List Cm} {ev wv : Value} (hb : Below w.heap.size (w.setCell ⟨rb, 0, none⟩ (.int .i32 1)) W) (hm : w.heap[rb]? = some (.cells (repC n me log.length ev wv) 113 (0, 0))) :
    W.heap[rb]? = some (.cells ((repC n me log.length ev wv).setIfInBounds 0 (.int .i32 1)) 113 (0, 0)) :=
  (hb.block rb (Array.getElem?_eq_some_iff.1 hm).1).trans (heap_setCell_same hm _)

set_option maxRecDepth 100000 in
set_option maxHeartbeats 4000000 in
theorem do_bad {w : World} {rb n me : Nat} {log : List Cm} {F : Nat → Prop} {ev wv : Value} (hv : VerbsAt w) (hm : RepM w rb n me log F ev wv) (s : ByteArray) (hs : s.size ≤ maxLen) (hr : readC s = none) :
    Calls Tryz.prog 20 #[.pointer (some ⟨rb, 0, none⟩), .string s] w fun e w' => e = .returned (.int .i64 2) ∧ Below w.heap.size w w' := by
  have hrl := (Array.getElem?_eq_some_iff.1 hm.rbk).1
  have c0 : w.cell? ⟨rb, 0, none⟩ = some (.int .i32 0) := by rw [cell_of_heap hm.rbk]; rfl
  have f0 : w.frozen? ⟨rb, 0, none⟩ = false := frozen_of_heap hm.rbk 0
  have HLk : Hid (Lkd w rb n me log ev wv (w.setCell ⟨rb, 0, none⟩ (.int .i32 1))) := hm.lkd hv
  have HM : Hid (w.heap[rb]? = some (.cells (repC n me log.length ev wv) 113 (0, 0))) := hm.rbk
  have HP : Hid (Calls Tryz.prog 46 #[.string s] (w.setCell ⟨rb, 0, none⟩ (.int .i32 1)) fun e w' => e = .returned (.tuple #[.agg #[.int .i64 0, .string ⟨#[]⟩, .int .i64 0], .bool false]) ∧ Below w.heap.size (w.setCell ⟨rb, 0, none⟩ (.int .i32 1)) w') := by
    have := parse_any s (w.setCell ⟨rb, 0, none⟩ (.int .i32 1)) hs HLk.out.verbs
    rw [hr, size_setCell] at this
    exact this
  clear hm hv hr hs HLk
  go_enter_defers Tryz.func20, Tryz.ntmps20
  go_wp2_with (first
    | (go_at_call 44; refine (lock_free muLib ⟨rb, 0, none⟩ _ c0 f0).mono ?_; rintro e w' ⟨rfl, rfl⟩)
    | (go_at_call 46; refine HP.out.mono ?_; rintro e w2 ⟨rfl, hb⟩; have hb3 : ∀ o, Below w.heap.size (w.setCell ⟨rb, 0, none⟩ (.int .i32 1)) (w2.alloc o) := fun o => hb.alloc (by have := hb.size; rw [size_setCell] at this; exact this) o))
  have hk2 := unlocked (hb3 (.cells #[.int .i64 0, .string ⟨#[]⟩, .int .i64 0] 116)) HM.out
  refine leaves_cons (f := 45) (args := #[.pointer (some ⟨rb, 0, none⟩)]) (by simp) (by simp [go_sem]) ?_
  refine (unlock_deferred muLib ⟨rb, 0, none⟩ .returning _ (by rw [cell_of_heap hk2]; rfl) (frozen_of_heap hk2 0)).mono ?_
  rintro e u' w'' ⟨rfl, rfl, rfl⟩
  exact ⟨_, results_tmp rfl _ _ _, rfl, relock HM.out rfl (hb3 _)⟩

set_option maxRecDepth 100000 in
set_option maxHeartbeats 4000000 in
theorem do_unk {w : World} {rb n me : Nat} {log : List Cm} {F : Nat → Prop} {ev wv : Value} (hv : VerbsAt w) (hm : RepM w rb n me log F ev wv) (s : ByteArray) (hs : s.size ≤ maxLen) (cm : Cm) (hr : readC s = some cm) (hg : goesB (logCart log hm.le8 hm.ok) cm = false) :
    Calls Tryz.prog 20 #[.pointer (some ⟨rb, 0, none⟩), .string s] w fun e w' => e = .returned (.int .i64 3) ∧ Below w.heap.size w w' := by
  have hrl := (Array.getElem?_eq_some_iff.1 hm.rbk).1
  have c0 : w.cell? ⟨rb, 0, none⟩ = some (.int .i32 0) := by rw [cell_of_heap hm.rbk]; rfl
  have f0 : w.frozen? ⟨rb, 0, none⟩ = false := frozen_of_heap hm.rbk 0
  have HLk : Hid (Lkd w rb n me log ev wv (w.setCell ⟨rb, 0, none⟩ (.int .i32 1))) := hm.lkd hv
  have HM : Hid (w.heap[rb]? = some (.cells (repC n me log.length ev wv) 113 (0, 0))) := hm.rbk
  have HP : Hid (Calls Tryz.prog 46 #[.string s] (w.setCell ⟨rb, 0, none⟩ (.int .i32 1)) fun e w' => e = .returned (.tuple #[.agg #[.int .i64 (cm.k.num : Int), .string cm.word, .int .i64 (cm.count : Int)], .bool true]) ∧ Below w.heap.size (w.setCell ⟨rb, 0, none⟩ (.int .i32 1)) w') := by
    have := parse_any s (w.setCell ⟨rb, 0, none⟩ (.int .i32 1)) hs HLk.out.verbs
    rw [hr, size_setCell] at this
    exact this
  have hcm := (read_parts hr).1
  have HG : Hid (∀ W, Below w.heap.size (w.setCell ⟨rb, 0, none⟩ (.int .i32 1)) W → Calls Tryz.prog 47 #[.pointer (some ⟨rb, 0, none⟩), .agg #[.int .i64 (cm.k.num : Int), .string cm.word, .int .i64 (cm.count : Int)]] W fun e w' => e = .returned (.bool false) ∧ Below W.heap.size W w') := fun W hW => by
    have := goesDo hm HLk.out (by rw [size_setCell]; exact hW) cm hcm
    rw [hg] at this
    exact this
  clear hg hm hv hr hs HLk hcm
  go_enter_defers Tryz.func20, Tryz.ntmps20
  go_wp2_with (first
    | (go_at_call 44; refine (lock_free muLib ⟨rb, 0, none⟩ _ c0 f0).mono ?_; rintro e w' ⟨rfl, rfl⟩)
    | (go_at_call 46; refine HP.out.mono ?_; rintro e w2 ⟨rfl, hb⟩; have hb3 : ∀ o, Below w.heap.size (w.setCell ⟨rb, 0, none⟩ (.int .i32 1)) (w2.alloc o) := fun o => hb.alloc (by have := hb.size; rw [size_setCell] at this; exact this) o)
    | (go_at_call 47; refine (HG.out _ (hb3 _)).mono ?_; rintro e w4 ⟨rfl, hb4⟩; have hb5 : Below w.heap.size (w.setCell ⟨rb, 0, none⟩ (.int .i32 1)) w4 := (hb3 _).trans (hb4.mono (by have := (hb3 (.map #[] 0)).size; rw [size_setCell] at this; simpa using this))))
  have hk2 := unlocked hb5 HM.out
  refine leaves_cons (f := 45) (args := #[.pointer (some ⟨rb, 0, none⟩)]) (by simp) (by simp [go_sem]) ?_
  refine (unlock_deferred muLib ⟨rb, 0, none⟩ .returning _ (by rw [cell_of_heap hk2]; rfl) (frozen_of_heap hk2 0)).mono ?_
  rintro e u' w'' ⟨rfl, rfl, rfl⟩
  exact ⟨_, results_tmp rfl _ _ _, rfl, relock HM.out rfl hb5⟩

set_option maxRecDepth 100000 in
set_option maxHeartbeats 4000000 in
theorem do_full {w : World} {rb n me : Nat} {log : List Cm} {F : Nat → Prop} {ev wv : Value} (hv : VerbsAt w) (hm : RepM w rb n me log F ev wv) (s : ByteArray) (hs : s.size ≤ maxLen) (cm : Cm) (hr : readC s = some cm) (hg : goesB (logCart log hm.le8 hm.ok) cm = true) (h8 : 8 ≤ log.length) :
    Calls Tryz.prog 20 #[.pointer (some ⟨rb, 0, none⟩), .string s] w fun e w' => e = .returned (.int .i64 4) ∧ Below w.heap.size w w' := by
  have hrl := (Array.getElem?_eq_some_iff.1 hm.rbk).1
  have c0 : w.cell? ⟨rb, 0, none⟩ = some (.int .i32 0) := by rw [cell_of_heap hm.rbk]; rfl
  have f0 : w.frozen? ⟨rb, 0, none⟩ = false := frozen_of_heap hm.rbk 0
  have HLk : Hid (Lkd w rb n me log ev wv (w.setCell ⟨rb, 0, none⟩ (.int .i32 1))) := hm.lkd hv
  have HM : Hid (w.heap[rb]? = some (.cells (repC n me log.length ev wv) 113 (0, 0))) := hm.rbk
  have HP : Hid (Calls Tryz.prog 46 #[.string s] (w.setCell ⟨rb, 0, none⟩ (.int .i32 1)) fun e w' => e = .returned (.tuple #[.agg #[.int .i64 (cm.k.num : Int), .string cm.word, .int .i64 (cm.count : Int)], .bool true]) ∧ Below w.heap.size (w.setCell ⟨rb, 0, none⟩ (.int .i32 1)) w') := by
    have := parse_any s (w.setCell ⟨rb, 0, none⟩ (.int .i32 1)) hs HLk.out.verbs
    rw [hr, size_setCell] at this
    exact this
  have hcm := (read_parts hr).1
  have HG : Hid (∀ W, Below w.heap.size (w.setCell ⟨rb, 0, none⟩ (.int .i32 1)) W → Calls Tryz.prog 47 #[.pointer (some ⟨rb, 0, none⟩), .agg #[.int .i64 (cm.k.num : Int), .string cm.word, .int .i64 (cm.count : Int)]] W fun e w' => e = .returned (.bool true) ∧ Below W.heap.size W w') := fun W hW => by
    have := goesDo hm HLk.out (by rw [size_setCell]; exact hW) cm hcm
    rw [hg] at this
    exact this
  have HO : Hid (∀ W, Below w.heap.size (w.setCell ⟨rb, 0, none⟩ (.int .i32 1)) W → Calls Tryz.prog 48 #[.pointer (some ⟨rb, 10, none⟩)] W fun e w' => e = .returned (.int .i64 (log.length : Int)) ∧ Below W.heap.size W w') := fun W hW => openDo hm HLk.out (by rw [size_setCell]; exact hW)
  have hL8 : (8 : Int) ≤ (log.length : Int) := by omega
  clear hg hm hv hr hs HLk hcm
  go_enter_defers Tryz.func20, Tryz.ntmps20
  go_wp2_with (first
    | (go_at_call 44; refine (lock_free muLib ⟨rb, 0, none⟩ _ c0 f0).mono ?_; rintro e w' ⟨rfl, rfl⟩)
    | (go_at_call 46; refine HP.out.mono ?_; rintro e w2 ⟨rfl, hb⟩; have hb3 : ∀ o, Below w.heap.size (w.setCell ⟨rb, 0, none⟩ (.int .i32 1)) (w2.alloc o) := fun o => hb.alloc (by have := hb.size; rw [size_setCell] at this; exact this) o)
    | (go_at_call 47; refine (HG.out _ (hb3 _)).mono ?_; rintro e w4 ⟨rfl, hb4⟩; have hb5 : Below w.heap.size (w.setCell ⟨rb, 0, none⟩ (.int .i32 1)) w4 := (hb3 _).trans (hb4.mono (by have := (hb3 (.map #[] 0)).size; rw [size_setCell] at this; simpa using this)))
    | (go_at_call 48; refine (HO.out _ hb5).mono ?_; rintro e w6 ⟨rfl, hb6⟩; have hb7 : Below w.heap.size (w.setCell ⟨rb, 0, none⟩ (.int .i32 1)) w6 := hb5.trans (hb6.mono (by have := hb5.size; rw [size_setCell] at this; exact this))))
  have hk2 := unlocked hb7 HM.out
  refine leaves_cons (f := 45) (args := #[.pointer (some ⟨rb, 0, none⟩)]) (by simp) (by simp [go_sem]) ?_
  refine (unlock_deferred muLib ⟨rb, 0, none⟩ .returning _ (by rw [cell_of_heap hk2]; rfl) (frozen_of_heap hk2 0)).mono ?_
  rintro e u' w'' ⟨rfl, rfl, rfl⟩
  exact ⟨_, results_tmp rfl _ _ _, rfl, relock HM.out rfl hb7⟩

end Go.Proofs.YtckmppkdpnhodaaGreatDoor

namespace Go.Proofs.YtckmppkdpnhodaaGreatDoor
set_option linter.unusedVariables false
set_option linter.unusedSimpArgs false
open Go.RowKit Go.Proofs Go.MuLone

theorem PowAt.lock {w : World} (h : PowAt w) {rb : Nat} (hr : rb ≠ 3) (v : Value) (o : Nat) : PowAt (w.setCell ⟨rb, o, none⟩ v) := by
  unfold PowAt Lib.TabIs World.var? at h ⊢
  rw [Tryz.gPow] at h ⊢
  simp only [Option.bind_some] at h ⊢
  rw [Below.heap_setCell _ _ _ _ (fun e => hr e.symm)]
  exact h

theorem RepM.nePow {w : World} {rb n me : Nat} {log : List Cm} {F : Nat → Prop} {ev wv : Value} (h : RepM w rb n me log F ev wv) (hp : PowAt w) : rb ≠ 3 := fun e => by
  subst e
  have := Lib.TabIs.cell hp Tryz.gPow 0 (by decide)
  rw [cell_of_heap h.rbk] at this
  simp [repC] at this

set_option maxRecDepth 100000 in
set_option maxHeartbeats 4000000 in
theorem view_rep {w : World} {rb n me : Nat} {log : List Cm} {F : Nat → Prop} (hv : VerbsAt w) (hp : PowAt w) (h : RepR w rb n me log F) :
    Calls Tryz.prog 23 #[.pointer (some ⟨rb, 0, none⟩)] w fun e w' => ∃ s, e = .returned (.string s) ∧ IsView (ownTr me log) (List.range log.length) s ∧ Below w.heap.size w w' := by
  obtain ⟨ev, wv, hm⟩ := h
  have hrp := hm.nePow hp
  have hrl := (Array.getElem?_eq_some_iff.1 hm.rbk).1
  have c0 : w.cell? ⟨rb, 0, none⟩ = some (.int .i32 0) := by rw [cell_of_heap hm.rbk]; rfl
  have f0 : w.frozen? ⟨rb, 0, none⟩ = false := frozen_of_heap hm.rbk 0
  have HLk : Hid (Lkd w rb n me log ev wv (w.setCell ⟨rb, 0, none⟩ (.int .i32 1))) := hm.lkd hv
  have HM : Hid (w.heap[rb]? = some (.cells (repC n me log.length ev wv) 113 (0, 0))) := hm.rbk
  obtain ⟨a, cap, hev⟩ : ∃ p c, ev = .slice p log.length c := by
    rcases hm.erow.2 with ⟨h1, h0⟩ | ⟨g, cap', _, h1, _⟩
    · rw [h0]; exact ⟨_, _, h1⟩
    · exact ⟨_, _, h1⟩
  have hh := hm.hn
  have hme := hm.hme
  have HP : Hid (∀ W, Below w.heap.size (w.setCell ⟨rb, 0, none⟩ (.int .i32 1)) W → PowAt W) := fun W hW => (hp.lock hrp (.int .i32 1) 0).below hW (by rw [size_setCell]; exact Nat.le_refl _)
  have HA : Hid (Calls Tryz.prog 52 #[.pointer (some ⟨rb, 4, none⟩)] (w.setCell ⟨rb, 0, none⟩ (.int .i32 1)) fun e w' => e = .returned (.func (.func 131) #[] #[.pointer (some ⟨w.heap.size, 0, none⟩)]) ∧ Below w.heap.size (w.setCell ⟨rb, 0, none⟩ (.int .i32 1)) w' ∧
      Hid (Calls Tryz.prog 51 #[.func (.func 131) #[] #[.pointer (some ⟨w.heap.size, 0, none⟩)]] w' fun e W' =>
        ∃ c, e = .returned (.agg #[.map (some c), .map (some (c + 1)), .map (some (c + 1 + 1))]) ∧ Hid (CartAt W' c (c + 1) (c + 1 + 1) 8 (logCart log hm.le8 hm.ok) ∧ Below w.heap.size (w.setCell ⟨rb, 0, none⟩ (.int .i32 1)) W'))) := by
    have := ofAll rb me (by omega) log hm.le8 hm.ok ev a cap hev (w.setCell ⟨rb, 0, none⟩ (.int .i32 1)) (by rw [cell_of_heap HLk.out.rbk]; rfl) HLk.out.erow
    rw [size_setCell] at this
    refine this.mono ?_
    rintro e w' ⟨rfl, hb, hu⟩
    refine ⟨rfl, hb, (hu w' (Below.refl _ _)).mono ?_⟩
    rintro e W' ⟨c, rfl, -, -, hc, hb'⟩
    exact ⟨c, rfl, hc, hb.trans (hb'.mono (by have := hb.size; rwa [size_setCell] at this))⟩
  have HT : Hid (∀ c W, Hid (CartAt W c (c + 1) (c + 1 + 1) 8 (logCart log hm.le8 hm.ok) ∧ Below w.heap.size (w.setCell ⟨rb, 0, none⟩ (.int .i32 1)) W) → Calls Tryz.prog 53 #[.agg #[.map (some c), .map (some (c + 1)), .map (some (c + 1 + 1))]] W fun e w' => ∃ s, e = .returned (.string s) ∧ Hid (IsView (ownTr me log) (List.range log.length) s) ∧ Below w.heap.size (w.setCell ⟨rb, 0, none⟩ (.int .i32 1)) w') := fun c W hW => by
    refine (ctext_any c (c + 1) (c + 1 + 1) 8 (by omega) _ (cart_word8 me) W (HP.out W hW.out.2) hW.out.1).mono ?_
    rintro e w' ⟨s, rfl, ht, hb⟩
    exact ⟨s, rfl, text_view ht, hW.out.2.trans (hb.mono (by have := hW.out.2.size; rwa [size_setCell] at this))⟩
  clear hev hv hp HLk HP hrp hh hme
  generalize logCart log hm.le8 hm.ok = S at *
  clear hm
  go_enter_defers Tryz.func23, Tryz.ntmps23
  go_wp2_with (first
    | (go_at_call 44; refine (lock_free muLib ⟨rb, 0, none⟩ _ c0 f0).mono ?_; rintro e w' ⟨rfl, rfl⟩)
    | (go_at_call 52; refine HA.out.mono ?_; rintro e w2 ⟨rfl, hb2, HO⟩)
    | (go_at_call 51; refine HO.out.mono ?_; rintro e w3 ⟨c1, rfl, hq3⟩)
    | (go_at_call 53; refine (HT.out c1 _ hq3).mono ?_; rintro e w4 ⟨s, rfl, hs4, hb⟩))
  have hk2 := unlocked hb HM.out
  refine leaves_cons (f := 45) (args := #[.pointer (some ⟨rb, 0, none⟩)]) (by simp) (by simp [go_sem]) ?_
  refine (unlock_deferred muLib ⟨rb, 0, none⟩ .returning _ (by rw [cell_of_heap hk2]; rfl) (frozen_of_heap hk2 0)).mono ?_
  rintro e u' w'' ⟨rfl, rfl, rfl⟩
  exact ⟨_, results_tmp rfl _ _ _, s, rfl, hs4.out, relock HM.out rfl hb⟩

end Go.Proofs.YtckmppkdpnhodaaGreatDoor

namespace Go.Proofs.YtckmppkdpnhodaaGreatDoor
set_option linter.unusedVariables false
set_option linter.unusedSimpArgs false
open Go.RowKit Go.Proofs Go.MuLone

/-- What waits while the new command is being put to the first j replicas. -/
def sendTo (n me L j : Nat) : List (Nat × Nat) := boxItems n me L ++ ((List.range j).filter fun t => decide (t ≠ me)).map fun t => (t, L)

theorem sendTo_zero (n me L : Nat) : sendTo n me L 0 = boxItems n me L := by simp [sendTo]
theorem sendTo_all (n me L : Nat) : sendTo n me L n = boxItems n me (L + 1) := by rw [boxItems_succ]; rfl
theorem sendTo_me (n me L : Nat) : sendTo n me L (me + 1) = sendTo n me L me := by simp [sendTo, List.range_succ]
theorem sendTo_other (n me L j : Nat) (h : j ≠ me) : sendTo n me L (j + 1) = sendTo n me L j ++ [(j, L)] := by simp [sendTo, List.range_succ, h]

theorem sendTo_le {n me : Nat} (hn : 2 ≤ n ∧ n ≤ 5) (hme : me < n) (L j : Nat) (hL : L ≤ 8) (hj : j ≤ 5) : (sendTo n me L j).length ≤ 37 := by
  unfold sendTo
  rw [List.length_append, boxItems_length hn hme, List.length_map]
  have h1 : ((List.range j).filter fun t => decide (t ≠ me)).length ≤ j := by
    have := List.length_filter_le (fun t => decide (t ≠ me)) (List.range j)
    simpa using this
  have : L * (n - 1) ≤ 8 * 4 := Nat.mul_le_mul hL (by omega)
  omega

theorem boxItems_lt {n me L : Nat} {p : Nat × Nat} (h : p ∈ boxItems n me L) : p.2 < L := by
  simp only [boxItems, List.mem_flatMap, List.mem_map, List.mem_range] at h
  obtain ⟨a, ha, b, -, rfl⟩ := h
  exact ha

theorem boxC_grow (n me : Nat) (log : List Cm) (cm : Cm) : boxC me (log ++ [cm]) (boxItems n me log.length) = boxC me log (boxItems n me log.length) := by
  unfold boxC
  refine flatMap_same _ fun p hp => ?_
  unfold itemCells
  rw [List.getElem?_append_left (boxItems_lt hp)]

theorem repC_do (n me L : Nat) (hme : me < 5) (ev wv ev' : Value) : ((((repC n me L ev wv).setIfInBounds 0 (.int .i32 1)).setIfInBounds 4 ev').setIfInBounds (5 + me) (.int .i64 ((L : Int) + 1))) = (repC n me (L + 1) ev' wv).setIfInBounds 0 (.int .i32 1) := by
  rcases (show me = 0 ∨ me = 1 ∨ me = 2 ∨ me = 3 ∨ me = 4 by omega) with rfl | rfl | rfl | rfl | rfl <;> simp [repC]

theorem repC_put (n me L : Nat) (ev wv wv' : Value) : ((repC n me L ev wv).setIfInBounds 0 (.int .i32 1)).setIfInBounds 11 wv' = (repC n me L ev wv').setIfInBounds 0 (.int .i32 1) := by
  simp [repC]

theorem repC_unlock (n me L : Nat) (ev wv : Value) : ((repC n me L ev wv).setIfInBounds 0 (.int .i32 1)).setIfInBounds 0 (.int .i32 0) = repC n me L ev wv := by
  simp [repC]

/-- While the new command is being put: j replicas are done. -/
structure SendI (w : World) (rb n me : Nat) (log : List Cm) (cm : Cm) (ev wv : Value) (eb : Nat) (ev' : Value) (j : Nat) (W : World) (wj : Value) : Prop where
  rbk : W.heap[rb]? = some (.cells ((repC n me (log.length + 1) ev' wj).setIfInBounds 0 (.int .i32 1)) 113 (0, 0))
  erow : W.ownsRow 0 122 10 ev' (log.length + 1) (logCells me (log ++ [cm]))
  eB : ∀ b, ev'.ownBlock = some b → b ≠ rb ∧ (ev.ownBlock = some b ∨ w.heap.size ≤ b)
  wrow : W.ownsRow 0 171 12 wj (sendTo n me log.length j).length (boxC me (log ++ [cm]) (sendTo n me log.length j))
  wB : ∀ b, wj.ownBlock = some b → b ≠ rb ∧ ev'.ownBlock ≠ some b ∧ (wv.ownBlock = some b ∨ w.heap.size ≤ b)
  ent : W.heap[eb]? = some (.cells #[.int .i64 (me : Int), .int .i64 ((log.length : Int) + 1), .int .i64 ((rc me 0 log.length : Nat) : Int), .int .i64 ((rc me 1 log.length : Nat) : Int), .int .i64 ((rc me 2 log.length : Nat) : Int), .int .i64 ((rc me 3 log.length : Nat) : Int), .int .i64 ((rc me 4 log.length : Nat) : Int), .int .i64 (cm.k.num : Int), .string cm.word, .int .i64 (cm.count : Int)] 122 (0, 0))
  ebl : w.heap.size ≤ eb ∧ ev'.ownBlock ≠ some eb ∧ wj.ownBlock ≠ some eb
  upd : Upd [some rb, ev.ownBlock, wv.ownBlock] w W

theorem SendI.put {w : World} {rb n me : Nat} {log : List Cm} {cm : Cm} {ev wv : Value} {eb : Nat} {ev' : Value} {j : Nat} {W : World} {wj : Value} (h : SendI w rb n me log cm ev wv eb ev' j W wj) (hrl : rb < w.heap.size) (hjm : j ≠ me) {W' : World} {g cap : Nat}
    (o1 : W'.ownsRow 0 171 12 (.slice (some ⟨g, 0, none⟩) ((sendTo n me log.length j).length + 1) cap) ((sendTo n me log.length j).length + 1) (boxC me (log ++ [cm]) (sendTo n me log.length j ++ [(j, log.length)]))) (o2 : wj.ownBlock = some g ∨ W.heap.size ≤ g) (o3 : g ≠ rb)
    (o4 : W'.heap[rb]? = some (.cells (((repC n me (log.length + 1) ev' wj).setIfInBounds 0 (.int .i32 1)).setIfInBounds 11 (.slice (some ⟨g, 0, none⟩) ((sendTo n me log.length j).length + 1) cap)) 113 (0, 0))) (o5 : Upd [some rb, wj.ownBlock] W W') :
    SendI w rb n me log cm ev wv eb ev' (j + 1) W' (.slice (some ⟨g, 0, none⟩) ((sendTo n me log.length j).length + 1) cap) := by
  have heb := (Array.getElem?_eq_some_iff.1 h.ent).1
  have keep : ∀ b, b ≠ rb → wj.ownBlock ≠ some b → some b ∉ [some rb, wj.ownBlock] := fun b h1 h2 hm => by
    simp only [List.mem_cons, List.not_mem_nil, or_false, Option.some.injEq] at hm
    rcases hm with hm | hm
    · exact h1 hm
    · exact h2 hm.symm
  refine ⟨by rw [o4, repC_put], o5.owns h.erow fun b hb => keep b (h.eB b hb).1 fun e => (h.wB b e).2.1 hb, h.eB, ?_, ?_, (o5.block eb heb (keep eb (by have := h.ebl.1; omega) h.ebl.2.2)).trans h.ent, ⟨h.ebl.1, h.ebl.2.1, ?_⟩, h.upd.trans o5 fun i hi => ?_⟩
  · rw [sendTo_other _ _ _ _ hjm, List.length_append]; exact o1
  · intro b hb
    simp only [Value.ownBlock, Option.some.injEq] at hb
    have hb' : b = g := hb.symm
    subst hb'
    refine ⟨o3, ?_, ?_⟩
    · rcases o2 with h2 | h2
      · exact (h.wB b h2).2.1
      · intro e; have := (h.erow.lt b e).2; omega
    · rcases o2 with h2 | h2
      · exact (h.wB b h2).2.2
      · exact .inr (Nat.le_trans h.upd.size h2)
  · intro e
    simp only [Value.ownBlock, Option.some.injEq] at e
    have e' : g = eb := e
    rcases o2 with h2 | h2
    · exact h.ebl.2.2 (e' ▸ h2)
    · omega
  · simp only [List.mem_cons, List.not_mem_nil, or_false] at hi
    rcases hi with hi | hi
    · exact .inl (by simp [hi])
    · rcases (h.wB i hi.symm).2.2 with h2 | h2
      · exact .inl (by simp [h2])
      · exact .inr h2

theorem sendI_start {w : World} {rb n me : Nat} {log : List Cm} {cm : Cm} {ev wv : Value} (hn : 2 ≤ n ∧ n ≤ 5) (hme : me < n) (hrl : rb < w.heap.size) (hk : Lkd w rb n me log ev wv (w.setCell ⟨rb, 0, none⟩ (.int .i32 1))) (hne : ev.ownBlock ≠ some rb) (hnw : ∀ b, wv.ownBlock = some b → b ≠ rb ∧ ev.ownBlock ≠ some b) (hwl : ∀ b, wv.ownBlock = some b → b < w.heap.size)
    {W w7 Wf : World} {g cap eb : Nat} (hW : Below w.heap.size (w.setCell ⟨rb, 0, none⟩ (.int .i32 1)) W)
    (o1 : w7.ownsRow 0 122 10 (.slice (some ⟨g, 0, none⟩) (log.length + 1) cap) (log.length + 1) (logCells me (log ++ [cm]))) (o2 : ev.ownBlock = some g ∨ W.heap.size ≤ g) (o3 : g ≠ rb)
    (o4 : w7.heap[rb]? = some (.cells ((repC n me (log.length + 1) (.slice (some ⟨g, 0, none⟩) (log.length + 1) cap) wv).setIfInBounds 0 (.int .i32 1)) 113 (0, 0))) (o5 : Upd [some rb, ev.ownBlock] W w7)
    (he : Wf.heap[eb]? = some (.cells #[.int .i64 (me : Int), .int .i64 ((log.length : Int) + 1), .int .i64 ((rc me 0 log.length : Nat) : Int), .int .i64 ((rc me 1 log.length : Nat) : Int), .int .i64 ((rc me 2 log.length : Nat) : Int), .int .i64 ((rc me 3 log.length : Nat) : Int), .int .i64 ((rc me 4 log.length : Nat) : Int), .int .i64 (cm.k.num : Int), .string cm.word, .int .i64 (cm.count : Int)] 122 (0, 0))) (hu : Upd [some eb] w7 Wf) (hew : w.heap.size ≤ eb) (hge : g ≠ eb) :
    SendI w rb n me log cm ev wv eb (.slice (some ⟨g, 0, none⟩) (log.length + 1) cap) 0 Wf wv := by
  have hsz : w.heap.size ≤ W.heap.size := by have := hW.size; rwa [size_setCell] at this
  have ne : ∀ b, b ≠ eb → some b ∉ [some eb] := fun b hb hm => by simp at hm; exact hb hm
  have hw7 : w7.ownsRow 0 171 12 wv (log.length * (n - 1)) (boxCells n me log) := by
    refine o5.owns (hk.below (by rw [size_setCell]; exact hW)).2.2 fun b hb hm => ?_
    simp only [List.mem_cons, List.not_mem_nil, or_false, Option.some.injEq] at hm
    rcases hm with hm | hm
    · exact (hnw b hb).1 hm
    · exact (hnw b hb).2 hm.symm
  refine ⟨(hu.block rb (Array.getElem?_eq_some_iff.1 o4).1 (ne rb (by omega))).trans o4, hu.owns o1 fun b hb => ne b (by cases hb; exact hge), fun b hb => ?_, ?_, fun b hb => ⟨(hnw b hb).1, ?_, .inl hb⟩, he, ⟨hew, fun e => hge (by cases e; rfl), fun e => by have := hwl eb e; omega⟩, ?_⟩
  · cases hb
    refine ⟨o3, ?_⟩
    rcases o2 with h | h
    · exact .inl h
    · exact .inr (by show w.heap.size ≤ g; omega)
  · rw [sendTo_zero, boxC_grow, ← boxCells_eq, boxItems_length hn hme]
    exact hu.owns hw7 fun b hb => ne b (by have := hwl b hb; omega)
  · intro e
    have e' : g = b := by cases e; rfl
    rcases o2 with h | h
    · exact (hnw b hb).2 (e' ▸ h)
    · have := hwl b hb; omega
  · have u0 : Upd [some rb, ev.ownBlock, wv.ownBlock] w (w.setCell ⟨rb, 0, none⟩ (.int .i32 1)) := (Upd.refl _ w).setCell (.inl (by simp)) _
    have u1 : Upd [some rb, ev.ownBlock, wv.ownBlock] w W := u0.trans (Upd.of_below (S := []) (by rw [size_setCell]; exact hW)) (by simp)
    have u2 : Upd [some rb, ev.ownBlock, wv.ownBlock] w w7 := u1.trans o5 fun i hi => .inl (by
      simp only [List.mem_cons, List.not_mem_nil, or_false] at hi ⊢
      rcases hi with hi | hi
      · exact .inl hi
      · exact .inr (.inl hi))
    exact u2.trans hu fun i hi => .inr (by simp at hi; omega)

end Go.Proofs.YtckmppkdpnhodaaGreatDoor
