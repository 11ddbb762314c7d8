/-
  (*Replica).Do, where it is done.
-/
import Derived.Test.YtckmppkdpnhodaaGreatDoorT33
import Derived.Deep.RegionHeld3
namespace Go.Proofs.YtckmppkdpnhodaaGreatDoor
set_option linter.unusedVariables false
set_option linter.unusedSimpArgs false
open Go.RowKit Go.Proofs Go.MuLone

theorem cell_set10 (w : World) (eb : Nat) (v0 v1 v2 v3 v4 v5 v6 v7 v8 v9 : Value) (b o : Nat) (h : b ≠ eb) {v : Value} (hv : w.cell? ⟨b, o, none⟩ = some v) : ((((((((((w.setCell ⟨eb, 0, none⟩ v0).setCell ⟨eb, 1, none⟩ v1).setCell ⟨eb, 2, none⟩ v2).setCell ⟨eb, 3, none⟩ v3).setCell ⟨eb, 4, none⟩ v4).setCell ⟨eb, 5, none⟩ v5).setCell ⟨eb, 6, none⟩ v6).setCell ⟨eb, 7, none⟩ v7).setCell ⟨eb, 8, none⟩ v8).setCell ⟨eb, 9, none⟩ v9).cell? ⟨b, o, none⟩ = some v := by
  refine (World.cell?_of_block (a := ⟨b, o, none⟩) ?_).trans hv
  rw [Below.heap_setCell _ _ _ _ h, Below.heap_setCell _ _ _ _ h, Below.heap_setCell _ _ _ _ h, Below.heap_setCell _ _ _ _ h, Below.heap_setCell _ _ _ _ h, Below.heap_setCell _ _ _ _ h, Below.heap_setCell _ _ _ _ h, Below.heap_setCell _ _ _ _ h, Below.heap_setCell _ _ _ _ h, Below.heap_setCell _ _ _ _ h]

theorem set10 {w : World} {eb : Nat} (h : w.heap[eb]? = some (.cells #[.int .i64 0, .int .i64 0, .int .i64 0, .int .i64 0, .int .i64 0, .int .i64 0, .int .i64 0, .int .i64 0, .string { data := #[] }, .int .i64 0] 122 (0, 0))) (v0 v1 v2 v3 v4 v5 v6 v7 v8 v9 : Value) :
    ((((((((((w.setCell ⟨eb, 0, none⟩ v0).setCell ⟨eb, 1, none⟩ v1).setCell ⟨eb, 2, none⟩ v2).setCell ⟨eb, 3, none⟩ v3).setCell ⟨eb, 4, none⟩ v4).setCell ⟨eb, 5, none⟩ v5).setCell ⟨eb, 6, none⟩ v6).setCell ⟨eb, 7, none⟩ v7).setCell ⟨eb, 8, none⟩ v8).setCell ⟨eb, 9, none⟩ v9).heap[eb]? = some (.cells #[v0, v1, v2, v3, v4, v5, v6, v7, v8, v9] 122 (0, 0)) ∧ Upd [some eb] w ((((((((((w.setCell ⟨eb, 0, none⟩ v0).setCell ⟨eb, 1, none⟩ v1).setCell ⟨eb, 2, none⟩ v2).setCell ⟨eb, 3, none⟩ v3).setCell ⟨eb, 4, none⟩ v4).setCell ⟨eb, 5, none⟩ v5).setCell ⟨eb, 6, none⟩ v6).setCell ⟨eb, 7, none⟩ v7).setCell ⟨eb, 8, none⟩ v8).setCell ⟨eb, 9, none⟩ v9) := by
  refine ⟨?_, (((((((((((Upd.refl _ w).setCell (.inl (by simp)) _).setCell (.inl (by simp)) _).setCell (.inl (by simp)) _).setCell (.inl (by simp)) _).setCell (.inl (by simp)) _).setCell (.inl (by simp)) _).setCell (.inl (by simp)) _).setCell (.inl (by simp)) _).setCell (.inl (by simp)) _).setCell (.inl (by simp)) _)⟩
  rw [(heap_setCell_same (heap_setCell_same (heap_setCell_same (heap_setCell_same (heap_setCell_same (heap_setCell_same (heap_setCell_same (heap_setCell_same (heap_setCell_same (heap_setCell_same h _) _) _) _) _) _) _) _) _) _)]
  simp

theorem cell_alloc' (w : World) (o : Obj) (b k : Nat) {v : Value} (hv : w.cell? ⟨b, k, none⟩ = some v) : (w.alloc o).cell? ⟨b, k, none⟩ = some v :=
  (World.cell?_of_block (a := ⟨b, k, none⟩) (Below.heap_alloc w o b (World.block_lt_of_cell? w _ hv))).trans hv

theorem SendI.drew {w : World} {rb n me : Nat} {log : List Cm} {cm : Cm} {ev wv : Value} {eb : Nat} {ev' : Value} {j : Nat} {W : World} {wj : Value} (h : SendI w rb n me log cm ev wv eb ev' j W wj) : SendI w rb n me log cm ev wv eb ev' j W.drew wj :=
  ⟨h.rbk, h.erow, h.eB, h.wrow, h.wB, h.ent, h.ebl, h.upd.drew⟩

theorem SendI.boxput {w : World} {rb n me : Nat} {log : List Cm} {cm : Cm} {ev wv : Value} {eb : Nat} {ev' : Value} {j : Nat} {W : World} {wj : Value} (h : SendI w rb n me log cm ev wv eb ev' j W wj) (hn : 2 ≤ n ∧ n ≤ 5) (hme : me < n) (h8 : log.length < 8) (hrl : rb < w.heap.size) (hj : j < n) (hjm : j ≠ me) :
    Calls Tryz.prog 50 #[.pointer (some ⟨rb, 10, none⟩), .int .i64 (j : Int), .agg #[.int .i64 (me : Int), .int .i64 ((log.length : Int) + 1), .int .i64 ((rc me 0 log.length : Nat) : Int), .int .i64 ((rc me 1 log.length : Nat) : Int), .int .i64 ((rc me 2 log.length : Nat) : Int), .int .i64 ((rc me 3 log.length : Nat) : Int), .int .i64 ((rc me 4 log.length : Nat) : Int), .int .i64 (cm.k.num : Int), .string cm.word, .int .i64 (cm.count : Int)]] W fun e w' => e = .returned (.tuple #[]) ∧ ∃ wj', SendI w rb n me log cm ev wv eb ev' (j + 1) w' wj' := by
  refine (boxput_any rb me (log ++ [cm]) (sendTo n me log.length j) (by have := sendTo_le hn hme log.length j (by omega) (by omega); omega) j log.length cm (by simp) wj _ _ W h.rbk rfl rfl h.wrow (fun e => (h.wB rb e).1 rfl)).mono ?_
  rintro e w' ⟨rfl, g, cap, o1, o2, o3, o4, o5⟩
  exact ⟨rfl, _, h.put hrl hjm o1 o2 o3 o4 o5⟩

set_option maxRecDepth 100000 in
set_option maxHeartbeats 4000000 in
theorem do_ok {w : World} {rb n me : Nat} {log : List Cm} {F : Nat → Prop} {ev wv : Value} (hv : VerbsAt w) (hm : RepM w rb n me log F ev wv) (s : ByteArray) (hs : s.size ≤ maxLen) (cm : Cm) (hr : readC s = some cm) (hg : goesB (logCart log hm.le8 hm.ok) cm = true) (h8 : log.length < 8) :
    Calls Tryz.prog 20 #[.pointer (some ⟨rb, 0, none⟩), .string s] w fun e w' => e = .returned (.int .i64 0) ∧ Upd [some rb, ev.ownBlock, wv.ownBlock] w w' ∧ ∃ ev' wj, w'.heap[rb]? = some (.cells (repC n me (log.length + 1) ev' wj) 113 (0, 0)) ∧ w'.ownsRow 0 122 10 ev' (log.length + 1) (logCells me (log ++ [cm])) ∧ (∀ b, ev'.ownBlock = some b → b ≠ rb ∧ (ev.ownBlock = some b ∨ w.heap.size ≤ b)) ∧ w'.ownsRow 0 171 12 wj ((log.length + 1) * (n - 1)) (boxC me (log ++ [cm]) (boxItems n me (log.length + 1))) ∧ (∀ b, wj.ownBlock = some b → b ≠ rb ∧ ev'.ownBlock ≠ some b ∧ (wv.ownBlock = some b ∨ w.heap.size ≤ b)) := by
  have hrl := (Array.getElem?_eq_some_iff.1 hm.rbk).1
  have c0 : w.cell? ⟨rb, 0, none⟩ = some (.int .i32 0) := by rw [cell_of_heap hm.rbk]; rfl
  have f0 : w.frozen? ⟨rb, 0, none⟩ = false := frozen_of_heap hm.rbk 0
  have HLk : Hid (Lkd w rb n me log ev wv (w.setCell ⟨rb, 0, none⟩ (.int .i32 1))) := hm.lkd hv
  have HM : Hid (w.heap[rb]? = some (.cells (repC n me log.length ev wv) 113 (0, 0))) := hm.rbk
  have HP : Hid (Calls Tryz.prog 46 #[.string s] (w.setCell ⟨rb, 0, none⟩ (.int .i32 1)) fun e w' => e = .returned (.tuple #[.agg #[.int .i64 (cm.k.num : Int), .string cm.word, .int .i64 (cm.count : Int)], .bool true]) ∧ Below w.heap.size (w.setCell ⟨rb, 0, none⟩ (.int .i32 1)) w') := by
    have := parse_any s (w.setCell ⟨rb, 0, none⟩ (.int .i32 1)) hs HLk.out.verbs
    rw [hr, size_setCell] at this
    exact this
  have hcm := (read_parts hr).1
  have HG : Hid (∀ W, Below w.heap.size (w.setCell ⟨rb, 0, none⟩ (.int .i32 1)) W → Calls Tryz.prog 47 #[.pointer (some ⟨rb, 0, none⟩), .agg #[.int .i64 (cm.k.num : Int), .string cm.word, .int .i64 (cm.count : Int)]] W fun e w' => e = .returned (.bool true) ∧ Below W.heap.size W w') := fun W hW => by
    have := goesDo hm HLk.out (by rw [size_setCell]; exact hW) cm hcm
    rw [hg] at this
    exact this
  have HO : Hid (∀ W, Below w.heap.size (w.setCell ⟨rb, 0, none⟩ (.int .i32 1)) W → Calls Tryz.prog 48 #[.pointer (some ⟨rb, 10, none⟩)] W fun e w' => e = .returned (.int .i64 (log.length : Int)) ∧ Below W.heap.size W w') := fun W hW => openDo hm HLk.out (by rw [size_setCell]; exact hW)
  have hL8 : (log.length : Int) < 8 := by omega
  have hL8' : ¬ (8 : Int) ≤ (log.length : Int) := by omega
  have hn5 := hm.hn
  have hmn := hm.hme
  have HNE : Hid (ev.ownBlock ≠ some rb) := fun e => (hm.eF rb e).2 rfl
  have HNW : Hid (∀ b, wv.ownBlock = some b → b ≠ rb ∧ ev.ownBlock ≠ some b) := fun b hb => (hm.wF b hb).2
  have HEL : Hid (∀ b, ev.ownBlock = some b → b < w.heap.size) := fun b hb => (hm.erow.lt b hb).2
  have HWL : Hid (∀ b, wv.ownBlock = some b → b < w.heap.size) := fun b hb => (hm.wrow.lt b hb).2
  have HD : Hid (∀ W, Below w.heap.size (w.setCell ⟨rb, 0, none⟩ (.int .i32 1)) W → Calls Tryz.prog 49 #[.pointer (some ⟨rb, 4, none⟩), .int .i64 (me : Int), .agg #[.int .i64 (cm.k.num : Int), .string cm.word, .int .i64 (cm.count : Int)]] W fun e w' =>
      e = .returned (.agg #[.int .i64 (me : Int), .int .i64 ((log.length : Int) + 1), .int .i64 ((rc me 0 log.length : Nat) : Int), .int .i64 ((rc me 1 log.length : Nat) : Int), .int .i64 ((rc me 2 log.length : Nat) : Int), .int .i64 ((rc me 3 log.length : Nat) : Int), .int .i64 ((rc me 4 log.length : Nat) : Int), .int .i64 (cm.k.num : Int), .string cm.word, .int .i64 (cm.count : Int)]) ∧ ∃ g cap, w'.ownsRow 0 122 10 (.slice (some ⟨g, 0, none⟩) (log.length + 1) cap) (log.length + 1) (logCells me (log ++ [cm])) ∧ (ev.ownBlock = some g ∨ W.heap.size ≤ g) ∧ g ≠ rb ∧
        w'.heap[rb]? = some (.cells ((repC n me (log.length + 1) (.slice (some ⟨g, 0, none⟩) (log.length + 1) cap) wv).setIfInBounds 0 (.int .i32 1)) 113 (0, 0)) ∧ Upd [some rb, ev.ownBlock] W w') := fun W hW => by
    obtain ⟨h1, h2, -⟩ := HLk.out.below (by rw [size_setCell]; exact hW)
    have := logdo_any rb me (by omega) log (by omega) cm ev _ _ W h1 rfl (fun j hj => by rcases (show j = 0 ∨ j = 1 ∨ j = 2 ∨ j = 3 ∨ j = 4 by omega) with rfl | rfl | rfl | rfl | rfl <;> rfl) h2 HNE.out
    simp only [repC_do n me log.length (by omega) ev wv] at this
    exact this
  have HK2 : Hid (Lkd w rb n me log ev wv (w.setCell ⟨rb, 0, none⟩ (.int .i32 1))) := HLk.out
  clear hg hm hv hr hs HLk hcm
  go_enter_defers Tryz.func20, Tryz.ntmps20
  go_upto_region 10 with (first
    | (go_at_call 44; refine (lock_free muLib ⟨rb, 0, none⟩ _ c0 f0).mono ?_; rintro e w' ⟨rfl, rfl⟩)
    | (go_at_call 46; refine HP.out.mono ?_; rintro e w2 ⟨rfl, hb⟩; have hb3 : ∀ o, Below w.heap.size (w.setCell ⟨rb, 0, none⟩ (.int .i32 1)) (w2.alloc o) := fun o => hb.alloc (by have := hb.size; rw [size_setCell] at this; exact this) o)
    | (go_at_call 47; refine (HG.out _ (hb3 _)).mono ?_; rintro e w4 ⟨rfl, hb4⟩; have hb5 : Below w.heap.size (w.setCell ⟨rb, 0, none⟩ (.int .i32 1)) w4 := (hb3 _).trans (hb4.mono (by have := (hb3 (.map #[] 0)).size; rw [size_setCell] at this; simpa using this)))
    | (go_at_call 48; refine (HO.out _ hb5).mono ?_; rintro e w6 ⟨rfl, hb6⟩; have hb7 : Below w.heap.size (w.setCell ⟨rb, 0, none⟩ (.int .i32 1)) w6 := hb5.trans (hb6.mono (by have := hb5.size; rw [size_setCell] at this; exact this))))
  have hc6 : w6.heap[w2.heap.size]? = some (.cells #[.int .i64 (cm.k.num : Int), .string cm.word, .int .i64 (cm.count : Int)] 116 (0, 0)) := by
    have hz : w2.heap.size < w4.heap.size := by have := hb4.size; simp at this; omega
    exact (hb6.block _ hz).trans ((hb4.block _ (by simp)).trans (heap_alloc_new w2 _))
  have hw26 : w.heap.size ≤ w2.heap.size := by have := hb.size; rw [size_setCell] at this; exact this
  have hr6 := (HK2.out.below (by rw [size_setCell]; exact hb7)).1
  have a2 : w6.cell? ⟨rb, 2, none⟩ = some (.int .i64 (me : Int)) := by rw [cell_of_heap hr6]; rfl
  have b0 : w6.cell? ⟨w2.heap.size, 0, none⟩ = some (.int .i64 (cm.k.num : Int)) := by rw [cell_of_heap hc6]; rfl
  have b1 : w6.cell? ⟨w2.heap.size, 1, none⟩ = some (.string cm.word) := by rw [cell_of_heap hc6]; rfl
  have b2 : w6.cell? ⟨w2.heap.size, 2, none⟩ = some (.int .i64 (cm.count : Int)) := by rw [cell_of_heap hc6]; rfl
  have hcl : w2.heap.size < w6.heap.size := (Array.getElem?_eq_some_iff.1 hc6).1
  have HB7 : Hid (Below w.heap.size (w.setCell ⟨rb, 0, none⟩ (.int .i32 1)) w6) := hb7
  have H6 : Hid (w6.heap[w2.heap.size]? = some (.cells #[.int .i64 (cm.k.num : Int), .string cm.word, .int .i64 (cm.count : Int)] 116 (0, 0))) := hc6
  clear hc6 hr6 hb hb3 hb4 hb5 hb6 hb7 HP HG HO c0 f0
  generalize w2.heap.size = cb at *
  go_cut [7] from 32 (fun v wc => ∃ eb g cap, v = .pointer (some ⟨eb, 0, none⟩) ∧ Hid (SendI w rb n me log cm ev wv eb (.slice (some ⟨g, 0, none⟩) (log.length + 1) cap) 0 wc wv))
  case first =>
    have HS : Hid (∀ (W w7 : World) g cap, cb < W.heap.size → W.heap[cb]? = w6.heap[cb]? → Upd [some rb, ev.ownBlock] W w7 → w7.heap[rb]? = some (.cells ((repC n me (log.length + 1) (.slice (some ⟨g, 0, none⟩) (log.length + 1) cap) wv).setIfInBounds 0 (.int .i32 1)) 113 (0, 0)) → w7.cell? ⟨rb, 2, none⟩ = some (.int .i64 (me : Int)) ∧ w7.cell? ⟨cb, 0, none⟩ = some (.int .i64 (cm.k.num : Int)) ∧ w7.cell? ⟨cb, 1, none⟩ = some (.string cm.word) ∧ w7.cell? ⟨cb, 2, none⟩ = some (.int .i64 (cm.count : Int))) := fun W w7 g cap h1 h2 h3 h4 => by
      have h5 : w7.heap[cb]? = some (.cells #[.int .i64 (cm.k.num : Int), .string cm.word, .int .i64 (cm.count : Int)] 116 (0, 0)) := (h3.block cb h1 fun hm => by
        simp only [List.mem_cons, List.not_mem_nil, or_false, Option.some.injEq] at hm
        rcases hm with hm | hm
        · omega
        · have := HEL.out cb hm.symm; omega).trans (h2.trans H6.out)
      exact ⟨by rw [cell_of_heap h4]; rfl, by rw [cell_of_heap h5]; rfl, by rw [cell_of_heap h5]; rfl, by rw [cell_of_heap h5]; rfl⟩
    have hs6 : w.heap.size ≤ w6.heap.size := by omega
    have HZ : Hid (∀ (w7 : World), Upd [some rb, ev.ownBlock] (w6.alloc (.cells #[.int .i64 0, .int .i64 0, .int .i64 0, .int .i64 0, .int .i64 0, .int .i64 0, .int .i64 0, .int .i64 0, .string { data := #[] }, .int .i64 0] 122)).drew w7 → w7.heap[w6.heap.size]? = some (.cells #[.int .i64 0, .int .i64 0, .int .i64 0, .int .i64 0, .int .i64 0, .int .i64 0, .int .i64 0, .int .i64 0, .string { data := #[] }, .int .i64 0] 122 (0, 0))) := fun w7 h3 =>
      (h3.block _ (by show w6.heap.size < (w6.alloc _).heap.size; simp) fun hm => by
        simp only [List.mem_cons, List.not_mem_nil, or_false, Option.some.injEq] at hm
        rcases hm with hm | hm
        · omega
        · have := HEL.out _ hm.symm; omega).trans (heap_alloc_new w6 _)
    have zf : ∀ (w7 : World) o, Upd [some rb, ev.ownBlock] (w6.alloc (.cells #[.int .i64 0, .int .i64 0, .int .i64 0, .int .i64 0, .int .i64 0, .int .i64 0, .int .i64 0, .int .i64 0, .string { data := #[] }, .int .i64 0] 122)).drew w7 → w7.frozen? ⟨w6.heap.size, o, none⟩ = false := fun w7 o h => frozen_of_heap (HZ.out w7 h) o
    have z0 : ∀ (w7 : World), Upd [some rb, ev.ownBlock] (w6.alloc (.cells #[.int .i64 0, .int .i64 0, .int .i64 0, .int .i64 0, .int .i64 0, .int .i64 0, .int .i64 0, .int .i64 0, .string { data := #[] }, .int .i64 0] 122)).drew w7 → w7.cell? ⟨w6.heap.size, 0, none⟩ = some (.int .i64 0) := fun w7 h => by rw [cell_of_heap (HZ.out w7 h)]; rfl
    have z1 : ∀ (w7 : World), Upd [some rb, ev.ownBlock] (w6.alloc (.cells #[.int .i64 0, .int .i64 0, .int .i64 0, .int .i64 0, .int .i64 0, .int .i64 0, .int .i64 0, .int .i64 0, .string { data := #[] }, .int .i64 0] 122)).drew w7 → w7.cell? ⟨w6.heap.size, 1, none⟩ = some (.int .i64 0) := fun w7 h => by rw [cell_of_heap (HZ.out w7 h)]; rfl
    have z2 : ∀ (w7 : World), Upd [some rb, ev.ownBlock] (w6.alloc (.cells #[.int .i64 0, .int .i64 0, .int .i64 0, .int .i64 0, .int .i64 0, .int .i64 0, .int .i64 0, .int .i64 0, .string { data := #[] }, .int .i64 0] 122)).drew w7 → w7.cell? ⟨w6.heap.size, 2, none⟩ = some (.int .i64 0) := fun w7 h => by rw [cell_of_heap (HZ.out w7 h)]; rfl
    have z3 : ∀ (w7 : World), Upd [some rb, ev.ownBlock] (w6.alloc (.cells #[.int .i64 0, .int .i64 0, .int .i64 0, .int .i64 0, .int .i64 0, .int .i64 0, .int .i64 0, .int .i64 0, .string { data := #[] }, .int .i64 0] 122)).drew w7 → w7.cell? ⟨w6.heap.size, 3, none⟩ = some (.int .i64 0) := fun w7 h => by rw [cell_of_heap (HZ.out w7 h)]; rfl
    have z4 : ∀ (w7 : World), Upd [some rb, ev.ownBlock] (w6.alloc (.cells #[.int .i64 0, .int .i64 0, .int .i64 0, .int .i64 0, .int .i64 0, .int .i64 0, .int .i64 0, .int .i64 0, .string { data := #[] }, .int .i64 0] 122)).drew w7 → w7.cell? ⟨w6.heap.size, 4, none⟩ = some (.int .i64 0) := fun w7 h => by rw [cell_of_heap (HZ.out w7 h)]; rfl
    have z5 : ∀ (w7 : World), Upd [some rb, ev.ownBlock] (w6.alloc (.cells #[.int .i64 0, .int .i64 0, .int .i64 0, .int .i64 0, .int .i64 0, .int .i64 0, .int .i64 0, .int .i64 0, .string { data := #[] }, .int .i64 0] 122)).drew w7 → w7.cell? ⟨w6.heap.size, 5, none⟩ = some (.int .i64 0) := fun w7 h => by rw [cell_of_heap (HZ.out w7 h)]; rfl
    have z6 : ∀ (w7 : World), Upd [some rb, ev.ownBlock] (w6.alloc (.cells #[.int .i64 0, .int .i64 0, .int .i64 0, .int .i64 0, .int .i64 0, .int .i64 0, .int .i64 0, .int .i64 0, .string { data := #[] }, .int .i64 0] 122)).drew w7 → w7.cell? ⟨w6.heap.size, 6, none⟩ = some (.int .i64 0) := fun w7 h => by rw [cell_of_heap (HZ.out w7 h)]; rfl
    have z7 : ∀ (w7 : World), Upd [some rb, ev.ownBlock] (w6.alloc (.cells #[.int .i64 0, .int .i64 0, .int .i64 0, .int .i64 0, .int .i64 0, .int .i64 0, .int .i64 0, .int .i64 0, .string { data := #[] }, .int .i64 0] 122)).drew w7 → w7.cell? ⟨w6.heap.size, 7, none⟩ = some (.int .i64 0) := fun w7 h => by rw [cell_of_heap (HZ.out w7 h)]; rfl
    have z8 : ∀ (w7 : World), Upd [some rb, ev.ownBlock] (w6.alloc (.cells #[.int .i64 0, .int .i64 0, .int .i64 0, .int .i64 0, .int .i64 0, .int .i64 0, .int .i64 0, .int .i64 0, .string { data := #[] }, .int .i64 0] 122)).drew w7 → w7.cell? ⟨w6.heap.size, 8, none⟩ = some (.string { data := #[] }) := fun w7 h => by rw [cell_of_heap (HZ.out w7 h)]; rfl
    have z9 : ∀ (w7 : World), Upd [some rb, ev.ownBlock] (w6.alloc (.cells #[.int .i64 0, .int .i64 0, .int .i64 0, .int .i64 0, .int .i64 0, .int .i64 0, .int .i64 0, .int .i64 0, .string { data := #[] }, .int .i64 0] 122)).drew w7 → w7.cell? ⟨w6.heap.size, 9, none⟩ = some (.int .i64 0) := fun w7 h => by rw [cell_of_heap (HZ.out w7 h)]; rfl
    have n1 : rb ≠ w6.heap.size := by omega
    have n2 : cb ≠ w6.heap.size := by omega
    have hmx : Tryz.prog.follows .mixedOrders = true := by kernel_rfl
    have hS : (fun w' : World => w'.cell? ⟨rb, 2, none⟩ = some (.int .i64 (me : Int)) ∧ w'.cell? ⟨cb, 0, none⟩ = some (.int .i64 (cm.k.num : Int)) ∧ w'.cell? ⟨cb, 1, none⟩ = some (.string cm.word) ∧ w'.cell? ⟨cb, 2, none⟩ = some (.int .i64 (cm.count : Int))) w6.drew := ⟨a2, b0, b1, b2⟩
    refine wp_region_noPanic ?_
    refine wp_region_held (S := fun w' : World => w'.cell? ⟨rb, 2, none⟩ = some (.int .i64 (me : Int)) ∧ w'.cell? ⟨cb, 0, none⟩ = some (.int .i64 (cm.k.num : Int)) ∧ w'.cell? ⟨cb, 1, none⟩ = some (.string cm.word) ∧ w'.cell? ⟨cb, 2, none⟩ = some (.int .i64 (cm.count : Int))) hmx ?_
    clear HZ zf z0 z1 z2 z3 z4 z5 z6 z7 z8 z9
    refine wpAnyH_take (i := 0) (v := (.pointer (some ⟨rb, 0, none⟩))) rfl (by kernel_rfl) (by kernel_rfl) (by kernel_rfl) (fun _ _ _ h => h) (Or.inl ⟨by rfl, ?_⟩) hS ?_
    · intro w hSw; obtain ⟨s0, s1, s2, s3⟩ := hSw; go_simp
    dsimp only [List.getElem_toArray, List.getElem_cons_zero, List.getElem_cons_succ]
    simp only [Act.put, List.setIfInBounds_toArray, List.set_cons_zero, List.set_cons_succ]
    refine wpAnyH_take (i := 1) (v := (.pointer (some ⟨rb, 0, none⟩))) rfl (by kernel_rfl) (by kernel_rfl) (by kernel_rfl) (fun _ _ _ h => h) (Or.inl ⟨by rfl, ?_⟩) hS ?_
    · intro w hSw; obtain ⟨s0, s1, s2, s3⟩ := hSw; go_simp
    dsimp only [List.getElem_toArray, List.getElem_cons_zero, List.getElem_cons_succ]
    simp only [Act.put, List.setIfInBounds_toArray, List.set_cons_zero, List.set_cons_succ]
    refine wpAnyH_take (i := 2) (v := (.pointer (some ⟨rb, 4, none⟩))) rfl (by kernel_rfl) (by kernel_rfl) (by kernel_rfl) (fun _ _ _ h => h) (Or.inl ⟨by rfl, ?_⟩) hS ?_
    · intro w hSw; obtain ⟨s0, s1, s2, s3⟩ := hSw; go_simp
    dsimp only [List.getElem_toArray, List.getElem_cons_zero, List.getElem_cons_succ]
    simp only [Act.put, List.setIfInBounds_toArray, List.set_cons_zero, List.set_cons_succ]
    refine wpAnyH_take (i := 3) (v := (.pointer (some ⟨rb, 0, none⟩))) rfl (by kernel_rfl) (by kernel_rfl) (by kernel_rfl) (fun _ _ _ h => h) (Or.inl ⟨by rfl, ?_⟩) hS ?_
    · intro w hSw; obtain ⟨s0, s1, s2, s3⟩ := hSw; go_simp
    dsimp only [List.getElem_toArray, List.getElem_cons_zero, List.getElem_cons_succ]
    simp only [Act.put, List.setIfInBounds_toArray, List.set_cons_zero, List.set_cons_succ]
    refine wpAnyH_take (i := 4) (v := (.pointer (some ⟨rb, 0, none⟩))) rfl (by kernel_rfl) (by kernel_rfl) (by kernel_rfl) (fun _ _ _ h => h) (Or.inl ⟨by rfl, ?_⟩) hS ?_
    · intro w hSw; obtain ⟨s0, s1, s2, s3⟩ := hSw; go_simp
    dsimp only [List.getElem_toArray, List.getElem_cons_zero, List.getElem_cons_succ]
    simp only [Act.put, List.setIfInBounds_toArray, List.set_cons_zero, List.set_cons_succ]
    refine wpAnyH_take (i := 5) (v := (.pointer (some ⟨rb, 2, none⟩))) rfl (by kernel_rfl) (by kernel_rfl) (by kernel_rfl) (fun _ _ _ h => h) (Or.inl ⟨by rfl, ?_⟩) hS ?_
    · intro w hSw; obtain ⟨s0, s1, s2, s3⟩ := hSw; go_simp
    dsimp only [List.getElem_toArray, List.getElem_cons_zero, List.getElem_cons_succ]
    simp only [Act.put, List.setIfInBounds_toArray, List.set_cons_zero, List.set_cons_succ]
    refine wpAnyH_take (i := 6) (v := (.int .i64 (me : Int))) rfl (by kernel_rfl) (by kernel_rfl) (by kernel_rfl) (fun _ _ _ h => h) (Or.inl ⟨by rfl, ?_⟩) hS ?_
    · intro w hSw; obtain ⟨s0, s1, s2, s3⟩ := hSw; go_simp
    dsimp only [List.getElem_toArray, List.getElem_cons_zero, List.getElem_cons_succ]
    simp only [Act.put, List.setIfInBounds_toArray, List.set_cons_zero, List.set_cons_succ]
    refine wpAnyH_take (i := 7) (v := (.agg #[.int .i64 (cm.k.num : Int), .string cm.word, .int .i64 (cm.count : Int)])) rfl (by kernel_rfl) (by kernel_rfl) (by kernel_rfl) (fun _ _ _ h => h) (Or.inl ⟨by rfl, ?_⟩) hS ?_
    · intro w hSw; obtain ⟨s0, s1, s2, s3⟩ := hSw; go_simp
    dsimp only [List.getElem_toArray, List.getElem_cons_zero, List.getElem_cons_succ]
    simp only [Act.put, List.setIfInBounds_toArray, List.set_cons_zero, List.set_cons_succ]
    refine wpAnyH_ready (rs := [8, 9]) (by kernel_rfl) (by simp) ?_
    refine AllReadyH.cons rfl (fun K hK => ?_) (AllReadyH.cons rfl (fun K hK => ?_) AllReadyH.nil)
    · -- the call first
      rw [if_pos (by rfl)]
      dsimp only [List.getElem_toArray, List.getElem_cons_zero, List.getElem_cons_succ]
      go_simp
      refine (HD.out _ HB7.out.drew).mono ?_
      rintro e w7 ⟨rfl, g, cap, o1, o2, o3, o4, o5⟩
      have k7 := HS.out w6.drew w7 g cap hcl rfl o5 o4
      refine hK.out _ _ k7 (fun _ => ?_)
      clear hK K
      try simp only [Act.put, List.setIfInBounds_toArray, List.set_cons_zero, List.set_cons_succ]
      refine wpAnyH_ready (rs := [9]) (by kernel_rfl) (by simp) ?_
      refine AllReadyH.cons rfl (fun K hK => ?_) AllReadyH.nil
      rw [if_pos (by rfl)]
      dsimp only [List.getElem_toArray, List.getElem_cons_zero, List.getElem_cons_succ]
      go_simp
      have hz : (w7.alloc (.cells #[.int .i64 0, .int .i64 0, .int .i64 0, .int .i64 0, .int .i64 0, .int .i64 0, .int .i64 0, .int .i64 0, .string { data := #[] }, .int .i64 0] 122)).heap[w7.heap.size]? = some (.cells #[.int .i64 0, .int .i64 0, .int .i64 0, .int .i64 0, .int .i64 0, .int .i64 0, .int .i64 0, .int .i64 0, .string { data := #[] }, .int .i64 0] 122 (0, 0)) := heap_alloc_new w7 _
      have k8 := (show (fun w' : World => w'.cell? ⟨rb, 2, none⟩ = some (.int .i64 (me : Int)) ∧ w'.cell? ⟨cb, 0, none⟩ = some (.int .i64 (cm.k.num : Int)) ∧ w'.cell? ⟨cb, 1, none⟩ = some (.string cm.word) ∧ w'.cell? ⟨cb, 2, none⟩ = some (.int .i64 (cm.count : Int))) (w7.alloc (.cells #[.int .i64 0, .int .i64 0, .int .i64 0, .int .i64 0, .int .i64 0, .int .i64 0, .int .i64 0, .int .i64 0, .string { data := #[] }, .int .i64 0] 122)) from ⟨cell_alloc' _ _ _ _ k7.1, cell_alloc' _ _ _ _ k7.2.1, cell_alloc' _ _ _ _ k7.2.2.1, cell_alloc' _ _ _ _ k7.2.2.2⟩)
      have u8 : Upd [] w7 (w7.alloc (.cells #[.int .i64 0, .int .i64 0, .int .i64 0, .int .i64 0, .int .i64 0, .int .i64 0, .int .i64 0, .int .i64 0, .string { data := #[] }, .int .i64 0] 122)) := (Upd.refl _ w7).alloc _
      have hs7 : w6.heap.size ≤ w7.heap.size := o5.size
      have hg7 : g < w7.heap.size := (o1.lt g rfl).2
      refine hK.out _ _ k8 (fun _ => ?_)
      obtain ⟨w8, hw8⟩ : ∃ w8, w7.alloc (.cells #[.int .i64 0, .int .i64 0, .int .i64 0, .int .i64 0, .int .i64 0, .int .i64 0, .int .i64 0, .int .i64 0, .string { data := #[] }, .int .i64 0] 122) = w8 := ⟨_, rfl⟩
      rw [hw8] at hz k8 u8 ⊢
      clear hw8
      generalize hebd : w7.heap.size = eb at *
      have m1 : rb ≠ eb := by omega
      have m2 : cb ≠ eb := by omega
      have z0 : w8.cell? ⟨eb, 0, none⟩ = some (.int .i64 0) := by rw [cell_of_heap hz]; rfl
      have z1 : w8.cell? ⟨eb, 1, none⟩ = some (.int .i64 0) := by rw [cell_of_heap hz]; rfl
      have z2 : w8.cell? ⟨eb, 2, none⟩ = some (.int .i64 0) := by rw [cell_of_heap hz]; rfl
      have z3 : w8.cell? ⟨eb, 3, none⟩ = some (.int .i64 0) := by rw [cell_of_heap hz]; rfl
      have z4 : w8.cell? ⟨eb, 4, none⟩ = some (.int .i64 0) := by rw [cell_of_heap hz]; rfl
      have z5 : w8.cell? ⟨eb, 5, none⟩ = some (.int .i64 0) := by rw [cell_of_heap hz]; rfl
      have z6 : w8.cell? ⟨eb, 6, none⟩ = some (.int .i64 0) := by rw [cell_of_heap hz]; rfl
      have z7 : w8.cell? ⟨eb, 7, none⟩ = some (.int .i64 0) := by rw [cell_of_heap hz]; rfl
      have z8 : w8.cell? ⟨eb, 8, none⟩ = some (.string { data := #[] }) := by rw [cell_of_heap hz]; rfl
      have z9 : w8.cell? ⟨eb, 9, none⟩ = some (.int .i64 0) := by rw [cell_of_heap hz]; rfl
      have zf : ∀ o, w8.frozen? ⟨eb, o, none⟩ = false := frozen_of_heap hz
      clear hK K
      try simp only [Act.put, List.setIfInBounds_toArray, List.set_cons_zero, List.set_cons_succ]
      refine wpAnyH_ready (rs := [10]) (by kernel_rfl) (by simp) ?_
      refine AllReadyH.cons rfl (fun K hK => ?_) AllReadyH.nil
      rw [if_pos (by rfl)]
      dsimp only [List.getElem_toArray, List.getElem_cons_zero, List.getElem_cons_succ]
      go_simp
      refine hK.out _ _ ⟨cell_set10 _ _ _ _ _ _ _ _ _ _ _ _ _ _ m1 k8.1, cell_set10 _ _ _ _ _ _ _ _ _ _ _ _ _ _ m2 k8.2.1, cell_set10 _ _ _ _ _ _ _ _ _ _ _ _ _ _ m2 k8.2.2.1, cell_set10 _ _ _ _ _ _ _ _ _ _ _ _ _ _ m2 k8.2.2.2⟩ (fun _ => ?_)
      clear hK K
      refine wpAnyH_done (by kernel_rfl) ?_ _
      refine NoPanic.normal ?_
      have hsI := sendI_start (cm := cm) (eb := eb) hn5 hmn hrl HK2.out HNE.out HNW.out HWL.out HB7.out.drew o1 o2 o3 o4 o5 (set10 hz _ _ _ _ _ _ _ _ _ _).1 ((u8.mono (T := [some eb]) (by simp)).trans (set10 hz _ _ _ _ _ _ _ _ _ _).2 (fun i hi => .inl hi)) (by omega) (by omega)
      go_wp2_with fail
      go_meet
      case rel => exact ⟨eb, g, cap, rfl, hsI⟩
    · -- the alloc first
      rw [if_pos (by rfl)]
      dsimp only [List.getElem_toArray, List.getElem_cons_zero, List.getElem_cons_succ]
      go_simp
      obtain ⟨wx, hwx⟩ : ∃ wx, (w6.alloc (.cells #[.int .i64 0, .int .i64 0, .int .i64 0, .int .i64 0, .int .i64 0, .int .i64 0, .int .i64 0, .int .i64 0, .string { data := #[] }, .int .i64 0] 122)).drew = wx := ⟨_, rfl⟩
      have hbx : Below w.heap.size (w.setCell ⟨rb, 0, none⟩ (.int .i32 1)) wx := by rw [← hwx]; exact (HB7.out.alloc hs6 _).drew
      have hzx : wx.heap[w6.heap.size]? = some (.cells #[.int .i64 0, .int .i64 0, .int .i64 0, .int .i64 0, .int .i64 0, .int .i64 0, .int .i64 0, .int .i64 0, .string { data := #[] }, .int .i64 0] 122 (0, 0)) := by rw [← hwx]; exact heap_alloc_new w6 _
      have hcx : wx.heap[cb]? = w6.heap[cb]? := by rw [← hwx]; exact Below.heap_alloc w6 _ cb hcl
      have hsx : wx.heap.size = w6.heap.size + 1 := by rw [← hwx]; show (w6.alloc _).heap.size = _; simp
      have kx : (fun w' : World => w'.cell? ⟨rb, 2, none⟩ = some (.int .i64 (me : Int)) ∧ w'.cell? ⟨cb, 0, none⟩ = some (.int .i64 (cm.k.num : Int)) ∧ w'.cell? ⟨cb, 1, none⟩ = some (.string cm.word) ∧ w'.cell? ⟨cb, 2, none⟩ = some (.int .i64 (cm.count : Int))) wx := by rw [← hwx]; exact ⟨cell_alloc' _ _ _ _ a2, cell_alloc' _ _ _ _ b0, cell_alloc' _ _ _ _ b1, cell_alloc' _ _ _ _ b2⟩
      rw [hwx]
      refine hK.out _ _ kx (fun _ => ?_)
      clear hwx
      clear hK K
      try simp only [Act.put, List.setIfInBounds_toArray, List.set_cons_zero, List.set_cons_succ]
      refine wpAnyH_ready (rs := [8]) (by kernel_rfl) (by simp) ?_
      refine AllReadyH.cons rfl (fun K hK => ?_) AllReadyH.nil
      rw [if_pos (by rfl)]
      dsimp only [List.getElem_toArray, List.getElem_cons_zero, List.getElem_cons_succ]
      go_simp
      refine (HD.out wx hbx).mono ?_
      rintro e w7 ⟨rfl, g, cap, o1, o2, o3, o4, o5⟩
      have k8 := HS.out wx w7 g cap (by omega) hcx o5 o4
      refine hK.out _ _ k8 (fun _ => ?_)
      have hz : w7.heap[w6.heap.size]? = some (.cells #[.int .i64 0, .int .i64 0, .int .i64 0, .int .i64 0, .int .i64 0, .int .i64 0, .int .i64 0, .int .i64 0, .string { data := #[] }, .int .i64 0] 122 (0, 0)) := (o5.block _ (by omega) fun hm => by
        simp only [List.mem_cons, List.not_mem_nil, or_false, Option.some.injEq] at hm
        rcases hm with hm | hm
        · omega
        · have := HEL.out _ hm.symm; omega).trans hzx
      have hge : g ≠ w6.heap.size := by
        rcases o2 with h | h
        · have := HEL.out g h; omega
        · omega
      generalize hebd : w6.heap.size = eb at *
      have m1 : rb ≠ eb := by omega
      have m2 : cb ≠ eb := by omega
      have z0 : w7.cell? ⟨eb, 0, none⟩ = some (.int .i64 0) := by rw [cell_of_heap hz]; rfl
      have z1 : w7.cell? ⟨eb, 1, none⟩ = some (.int .i64 0) := by rw [cell_of_heap hz]; rfl
      have z2 : w7.cell? ⟨eb, 2, none⟩ = some (.int .i64 0) := by rw [cell_of_heap hz]; rfl
      have z3 : w7.cell? ⟨eb, 3, none⟩ = some (.int .i64 0) := by rw [cell_of_heap hz]; rfl
      have z4 : w7.cell? ⟨eb, 4, none⟩ = some (.int .i64 0) := by rw [cell_of_heap hz]; rfl
      have z5 : w7.cell? ⟨eb, 5, none⟩ = some (.int .i64 0) := by rw [cell_of_heap hz]; rfl
      have z6 : w7.cell? ⟨eb, 6, none⟩ = some (.int .i64 0) := by rw [cell_of_heap hz]; rfl
      have z7 : w7.cell? ⟨eb, 7, none⟩ = some (.int .i64 0) := by rw [cell_of_heap hz]; rfl
      have z8 : w7.cell? ⟨eb, 8, none⟩ = some (.string { data := #[] }) := by rw [cell_of_heap hz]; rfl
      have z9 : w7.cell? ⟨eb, 9, none⟩ = some (.int .i64 0) := by rw [cell_of_heap hz]; rfl
      have zf : ∀ o, w7.frozen? ⟨eb, o, none⟩ = false := frozen_of_heap hz
      clear hK K
      try simp only [Act.put, List.setIfInBounds_toArray, List.set_cons_zero, List.set_cons_succ]
      refine wpAnyH_ready (rs := [10]) (by kernel_rfl) (by simp) ?_
      refine AllReadyH.cons rfl (fun K hK => ?_) AllReadyH.nil
      rw [if_pos (by rfl)]
      dsimp only [List.getElem_toArray, List.getElem_cons_zero, List.getElem_cons_succ]
      go_simp
      refine hK.out _ _ ⟨cell_set10 _ _ _ _ _ _ _ _ _ _ _ _ _ _ m1 k8.1, cell_set10 _ _ _ _ _ _ _ _ _ _ _ _ _ _ m2 k8.2.1, cell_set10 _ _ _ _ _ _ _ _ _ _ _ _ _ _ m2 k8.2.2.1, cell_set10 _ _ _ _ _ _ _ _ _ _ _ _ _ _ m2 k8.2.2.2⟩ (fun _ => ?_)
      clear hK K
      refine wpAnyH_done (by kernel_rfl) ?_ _
      refine NoPanic.normal ?_
      have hsI := sendI_start (cm := cm) (eb := eb) hn5 hmn hrl HK2.out HNE.out HNW.out HWL.out hbx o1 o2 o3 o4 o5 (set10 hz _ _ _ _ _ _ _ _ _ _).1 (set10 hz _ _ _ _ _ _ _ _ _ _).2 (by omega) hge
      go_wp2_with fail
      go_meet
      case rel => exact ⟨eb, g, cap, rfl, hsI⟩
  case rest =>
    obtain ⟨eb, g, cap, rfl, hI⟩ := hcut
    clear a2 b0 b1 b2 H6 HB7 hcl hw26 HD
    generalize Value.slice (some ⟨g, 0, none⟩) (log.length + 1) cap = ev' at *
    have r3 : wc.cell? ⟨rb, 3, none⟩ = some (.int .i64 (n : Int)) := by rw [cell_of_heap hI.out.rbk]; rfl
    go_wp2
    go_loopw [45] (fun v wr => ∃ (j : Nat) (wj : Value), j ≤ n ∧ v = .int .i64 (j : Int) ∧ Hid (SendI w rb n me log cm ev wv eb ev' j wr wj)) (fun v _ => n - (intOf v).toNat)
    case atStart => exact ⟨0, wv, by omega, rfl, hI⟩
    case round =>
      obtain ⟨j, wj, hjn, rfl, hJ⟩ := hrel
      have q2 : wr.cell? ⟨rb, 2, none⟩ = some (.int .i64 (me : Int)) := by rw [cell_of_heap hJ.out.rbk]; rfl
      by_cases hlt : j < n
      · by_cases hjm : j = me
        · have HN : Hid (SendI w rb n me log cm ev wv eb ev' (j + 1) wr wj) := by
            have h := hJ.out
            subst hjm
            exact ⟨h.rbk, h.erow, h.eB, by rw [sendTo_me]; exact h.wrow, h.wB, h.ent, h.ebl, h.upd⟩
          subst hjm
          go_wp2
          go_roundw
          case rel => exact ⟨j + 1, wj, by omega, by go_num, HN⟩
          case measure => simp [intOf]; omega
        · have HB : Hid (Calls Tryz.prog 50 #[.pointer (some ⟨rb, 10, none⟩), .int .i64 (j : Int), .agg #[.int .i64 (me : Int), .int .i64 ((log.length : Int) + 1), .int .i64 ((rc me 0 log.length : Nat) : Int), .int .i64 ((rc me 1 log.length : Nat) : Int), .int .i64 ((rc me 2 log.length : Nat) : Int), .int .i64 ((rc me 3 log.length : Nat) : Int), .int .i64 ((rc me 4 log.length : Nat) : Int), .int .i64 (cm.k.num : Int), .string cm.word, .int .i64 (cm.count : Int)]] wr.drew fun e w' => e = .returned (.tuple #[]) ∧ ∃ wj', SendI w rb n me log cm ev wv eb ev' (j + 1) w' wj') := hJ.out.drew.boxput hn5 hmn h8 hrl hlt hjm
          have hji : ¬ ((j : Int) = (me : Int)) := by omega
          have he := hJ.out.ent
          have e0 : wr.cell? ⟨eb, 0, none⟩ = some (.int .i64 (me : Int)) := by rw [cell_of_heap he]; rfl
          have e1 : wr.cell? ⟨eb, 1, none⟩ = some (.int .i64 ((log.length : Int) + 1)) := by rw [cell_of_heap he]; rfl
          have e2 : wr.cell? ⟨eb, 2, none⟩ = some (.int .i64 ((rc me 0 log.length : Nat) : Int)) := by rw [cell_of_heap he]; rfl
          have e3 : wr.cell? ⟨eb, 3, none⟩ = some (.int .i64 ((rc me 1 log.length : Nat) : Int)) := by rw [cell_of_heap he]; rfl
          have e4 : wr.cell? ⟨eb, 4, none⟩ = some (.int .i64 ((rc me 2 log.length : Nat) : Int)) := by rw [cell_of_heap he]; rfl
          have e5 : wr.cell? ⟨eb, 5, none⟩ = some (.int .i64 ((rc me 3 log.length : Nat) : Int)) := by rw [cell_of_heap he]; rfl
          have e6 : wr.cell? ⟨eb, 6, none⟩ = some (.int .i64 ((rc me 4 log.length : Nat) : Int)) := by rw [cell_of_heap he]; rfl
          have e7 : wr.cell? ⟨eb, 7, none⟩ = some (.int .i64 (cm.k.num : Int)) := by rw [cell_of_heap he]; rfl
          have e8 : wr.cell? ⟨eb, 8, none⟩ = some (.string cm.word) := by rw [cell_of_heap he]; rfl
          have e9 : wr.cell? ⟨eb, 9, none⟩ = some (.int .i64 (cm.count : Int)) := by rw [cell_of_heap he]; rfl
          clear he
          go_upto_region 15 with fail
          go_region_held3 (fun w' => w'.cell? ⟨eb, 0, none⟩ = some (.int .i64 (me : Int)) ∧ w'.cell? ⟨eb, 1, none⟩ = some (.int .i64 ((log.length : Int) + 1)) ∧ w'.cell? ⟨eb, 2, none⟩ = some (.int .i64 ((rc me 0 log.length : Nat) : Int)) ∧ w'.cell? ⟨eb, 3, none⟩ = some (.int .i64 ((rc me 1 log.length : Nat) : Int)) ∧ w'.cell? ⟨eb, 4, none⟩ = some (.int .i64 ((rc me 2 log.length : Nat) : Int)) ∧ w'.cell? ⟨eb, 5, none⟩ = some (.int .i64 ((rc me 3 log.length : Nat) : Int)) ∧ w'.cell? ⟨eb, 6, none⟩ = some (.int .i64 ((rc me 4 log.length : Nat) : Int)) ∧ w'.cell? ⟨eb, 7, none⟩ = some (.int .i64 (cm.k.num : Int)) ∧ w'.cell? ⟨eb, 8, none⟩ = some (.string cm.word) ∧ w'.cell? ⟨eb, 9, none⟩ = some (.int .i64 (cm.count : Int)))
            (first
              | exact ⟨e0, e1, e2, e3, e4, e5, e6, e7, e8, e9⟩
              | exact ⟨by rw [cell_of_heap hI2.ent]; rfl, by rw [cell_of_heap hI2.ent]; rfl, by rw [cell_of_heap hI2.ent]; rfl, by rw [cell_of_heap hI2.ent]; rfl, by rw [cell_of_heap hI2.ent]; rfl, by rw [cell_of_heap hI2.ent]; rfl, by rw [cell_of_heap hI2.ent]; rfl, by rw [cell_of_heap hI2.ent]; rfl, by rw [cell_of_heap hI2.ent]; rfl, by rw [cell_of_heap hI2.ent]; rfl⟩
              | fail)
            (first
              | (go_at_call 50; refine HB.out.mono ?_; rintro e w2 ⟨rfl, wj2, hI2⟩))
          have HI2 : Hid (SendI w rb n me log cm ev wv eb ev' (j + 1) w2 wj2) := hI2
          clear hI2
          go_wp2
          go_roundw
          case rel => exact ⟨j + 1, wj2, by omega, by go_num, HI2⟩
          case measure => simp [intOf]; omega
      · obtain rfl : j = n := by omega
        go_wp2
        refine leaves_cons (f := 45) (args := #[.pointer (some ⟨rb, 0, none⟩)]) (by simp) (by simp [go_sem]) ?_
        refine (unlock_deferred muLib ⟨rb, 0, none⟩ .returning _ (by rw [cell_of_heap hJ.out.rbk]; rfl) (frozen_of_heap hJ.out.rbk 0)).mono ?_
        rintro e u' w'' ⟨rfl, rfl, rfl⟩
        refine ⟨_, results_tmp rfl _ _ _, rfl, hJ.out.upd.setCell (.inl (by simp)) _, ev', wj, ?_, owns_setCell_other hJ.out.erow (fun b hb => (hJ.out.eB b hb).1) _, hJ.out.eB, ?_, hJ.out.wB⟩
        · rw [heap_setCell_same hJ.out.rbk, repC_unlock]
        · have hw := hJ.out.wrow
          rw [sendTo_all, boxItems_length hn5 hmn] at hw
          exact owns_setCell_other hw (fun b hb => (hJ.out.wB b hb).1) _

end Go.Proofs.YtckmppkdpnhodaaGreatDoor
