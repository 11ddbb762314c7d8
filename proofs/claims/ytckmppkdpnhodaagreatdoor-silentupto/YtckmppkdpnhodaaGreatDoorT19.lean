/-
  (*Replica).Do, where it is done, whatever the replica knows.
-/
import Derived.Test.YtckmppkdpnhodaaGreatDoorT18
import Derived.Deep.RegionHeld3
namespace Go.Proofs.YtckmppkdpnhodaaGreatDoor
set_option linter.unusedVariables false
set_option linter.unusedSimpArgs false
open Go.RowKit Go.Proofs Go.MuLone

set_option maxRecDepth 100000 in
set_option maxHeartbeats 4000000 in
theorem doR_ok {w : World} {rb n me : Nat} {log : List En} {now : Nat} {its : List It} {ow : Nat → Bool} {ev wv : Value} (hv : VerbsAt w) (hm : RepQ w rb n me 0 log now its ow ev wv) (hn5 : 2 ≤ n ∧ n ≤ 5) (hmn : me < n) (h8 : log.length ≤ 4294967295) (hi : its.length ≤ 900) (hnow : now < 1152921504606846976) (s : ByteArray) (hs : s.size ≤ maxLen) (x : En) (hxo : x.org = me) (hxs : x.seq = cntL log me + 1) (hxa : x.ah = reachOf log) (hr : readC s = some x.c) (hg : goesB (cartG log log) x.c = true) (ho : openI its < 8) :
    Calls Tryz.prog 20 #[.pointer (some ⟨rb, 0, none⟩), .string s] w fun e w' => e = .returned (.int .i64 0) ∧ Upd [some rb, ev.ownBlock, wv.ownBlock] w w' ∧ ∃ ev' wj its', RepQ w' rb n me 0 (log ++ [x]) now its' ow ev' wj ∧ its'.Perm (its ++ newIts me now x n) ∧ (∀ b, ev'.ownBlock = some b → ev.ownBlock = some b ∨ w.heap.size ≤ b) ∧ (∀ b, wj.ownBlock = some b → wv.ownBlock = some b ∨ w.heap.size ≤ b) := by
  have hrl := hm.lt
  have c0 := hm.c0
  have f0 := hm.f 0
  have HLk : Hid (RepQ (w.setCell ⟨rb, 0, none⟩ (.int .i32 1)) rb n me 1 log now its ow ev wv) := hm.lock 1
  have HVl : Hid (VerbsAt (w.setCell ⟨rb, 0, none⟩ (.int .i32 1))) := hv.lock (hm.ne0 hv) _ _
  have HP : Hid (Calls Tryz.prog 46 #[.string s] (w.setCell ⟨rb, 0, none⟩ (.int .i32 1)) fun e w' => e = .returned (.tuple #[.agg #[.int .i64 (x.c.k.num : Int), .string x.c.word, .int .i64 (x.c.count : Int)], .bool true]) ∧ Below w.heap.size (w.setCell ⟨rb, 0, none⟩ (.int .i32 1)) w') := by
    have := parse_any s (w.setCell ⟨rb, 0, none⟩ (.int .i32 1)) hs HVl.out
    rw [hr, size_setCell] at this
    exact this
  have hcm := (read_parts hr).1
  have HG : Hid (∀ W, Below w.heap.size (w.setCell ⟨rb, 0, none⟩ (.int .i32 1)) W → Calls Tryz.prog 47 #[.pointer (some ⟨rb, 0, none⟩), .agg #[.int .i64 (x.c.k.num : Int), .string x.c.word, .int .i64 (x.c.count : Int)]] W fun e w' => e = .returned (.bool true) ∧ Below W.heap.size W w') := fun W hW => by
    have hk := HLk.out.below (by rw [size_setCell]; exact hW)
    have := goesG rb log (by omega) ev W hk.c4 hk.erow x.c hcm
    rw [hg] at this
    exact this
  have HO : Hid (∀ W, Below w.heap.size (w.setCell ⟨rb, 0, none⟩ (.int .i32 1)) W → Calls Tryz.prog 48 #[.pointer (some ⟨rb, 10, none⟩)] W fun e w' => e = .returned (.int .i64 ((openI its : Nat) : Int)) ∧ Below W.heap.size W w') := fun W hW => by
    have hk := HLk.out.below (by rw [size_setCell]; exact hW)
    exact openG rb its (by omega) wv W hk.c11 hk.wrow
  have hL8 : ((openI its : Nat) : Int) < 8 := by omega
  have hL8' : ¬ (8 : Int) ≤ ((openI its : Nat) : Int) := by omega
  have HEL : Hid (∀ b, ev.ownBlock = some b → b < w.heap.size) := fun b hb => (hm.erow.lt b hb).2
  have HWL : Hid (∀ b, wv.ownBlock = some b → b < w.heap.size) := fun b hb => (hm.wrow.lt b hb).2
  have HD : Hid (∀ W, Below w.heap.size (w.setCell ⟨rb, 0, none⟩ (.int .i32 1)) W → Calls Tryz.prog 49 #[.pointer (some ⟨rb, 4, none⟩), .int .i64 (me : Int), .agg #[.int .i64 (x.c.k.num : Int), .string x.c.word, .int .i64 (x.c.count : Int)]] W fun e w' =>
      e = .returned (.agg #[.int .i64 (me : Int), .int .i64 (x.seq : Int), .int .i64 (x.ah.a : Int), .int .i64 (x.ah.b : Int), .int .i64 (x.ah.c : Int), .int .i64 (x.ah.d : Int), .int .i64 (x.ah.e : Int), .int .i64 (x.c.k.num : Int), .string x.c.word, .int .i64 (x.c.count : Int)]) ∧ ∃ g cap, w'.ownsRow 0 122 10 (.slice (some ⟨g, 0, none⟩) (log.length + 1) cap) (log.length + 1) (enRow (log ++ [x])) ∧ (ev.ownBlock = some g ∨ W.heap.size ≤ g) ∧ g ≠ rb ∧
        w'.heap[rb]? = some (.cells (repG 1 n me (reachOf (log ++ [x])) now ow (.slice (some ⟨g, 0, none⟩) (log.length + 1) cap) wv) 113 (0, 0)) ∧ Upd [some rb, ev.ownBlock] W w') := fun W hW => by
    have hk := HLk.out.below (by rw [size_setCell]; exact hW)
    have := logdoG rb log (by omega) x (cntL log me) hxs (by rw [hxa, reachOf_get, hxo]) ev _ _ W hk.rbk rfl (fun j hj => by rw [hxa]; exact repG_reach _ _ _ _ _ _ _ _ hj) hk.erow hk.eN
    have hq : ((cntL log me : Nat) : Int) + 1 = ((x.seq : Nat) : Int) := by omega
    rw [hxo, hq] at this
    refine this.mono ?_
    rintro e w' ⟨he, g, cap, o1, o2, o3, o4, o5⟩
    refine ⟨he, g, cap, o1, o2, o3, ?_, o5⟩
    rw [o4, repG_put _ _ _ _ _ _ _ _ _ (by omega), reachOf_snoc log x (by rw [hxo]; exact hxs), hxo]
  have HXO : Hid (x.org = me) := hxo
  clear hg hm hv hr hs hcm ho HVl hxs hxa hxo
  generalize openI its = op at *
  go_enter_defers Tryz.func20, Tryz.ntmps20
  go_upto_region 10 with (first
    | (go_at_call 44; refine (lock_free muLib ⟨rb, 0, none⟩ _ c0 f0).mono ?_; rintro e w' ⟨rfl, rfl⟩)
    | (go_at_call 46; refine HP.out.mono ?_; rintro e w2 ⟨rfl, hb⟩; have hb3 : ∀ o, Below w.heap.size (w.setCell ⟨rb, 0, none⟩ (.int .i32 1)) (w2.alloc o) := fun o => hb.alloc (by have := hb.size; rw [size_setCell] at this; exact this) o)
    | (go_at_call 47; refine (HG.out _ (hb3 _)).mono ?_; rintro e w4 ⟨rfl, hb4⟩; have hb5 : Below w.heap.size (w.setCell ⟨rb, 0, none⟩ (.int .i32 1)) w4 := (hb3 _).trans (hb4.mono (by have := (hb3 (.map #[] 0)).size; rw [size_setCell] at this; simpa using this)))
    | (go_at_call 48; refine (HO.out _ hb5).mono ?_; rintro e w6 ⟨rfl, hb6⟩; have hb7 : Below w.heap.size (w.setCell ⟨rb, 0, none⟩ (.int .i32 1)) w6 := hb5.trans (hb6.mono (by have := hb5.size; rw [size_setCell] at this; exact this))))
  have hc6 : w6.heap[w2.heap.size]? = some (.cells #[.int .i64 (x.c.k.num : Int), .string x.c.word, .int .i64 (x.c.count : Int)] 116 (0, 0)) := by
    have hz : w2.heap.size < w4.heap.size := by have := hb4.size; simp at this; omega
    exact (hb6.block _ hz).trans ((hb4.block _ (by simp)).trans (heap_alloc_new w2 _))
  have hw26 : w.heap.size ≤ w2.heap.size := by have := hb.size; rw [size_setCell] at this; exact this
  have hr6 := (HLk.out.below (by rw [size_setCell]; exact hb7)).rbk
  have a2 : w6.cell? ⟨rb, 2, none⟩ = some (.int .i64 (me : Int)) := by rw [cell_of_heap hr6]; rfl
  have b0 : w6.cell? ⟨w2.heap.size, 0, none⟩ = some (.int .i64 (x.c.k.num : Int)) := by rw [cell_of_heap hc6]; rfl
  have b1 : w6.cell? ⟨w2.heap.size, 1, none⟩ = some (.string x.c.word) := by rw [cell_of_heap hc6]; rfl
  have b2 : w6.cell? ⟨w2.heap.size, 2, none⟩ = some (.int .i64 (x.c.count : Int)) := by rw [cell_of_heap hc6]; rfl
  have hcl : w2.heap.size < w6.heap.size := (Array.getElem?_eq_some_iff.1 hc6).1
  have HB7 : Hid (Below w.heap.size (w.setCell ⟨rb, 0, none⟩ (.int .i32 1)) w6) := hb7
  have H6 : Hid (w6.heap[w2.heap.size]? = some (.cells #[.int .i64 (x.c.k.num : Int), .string x.c.word, .int .i64 (x.c.count : Int)] 116 (0, 0))) := hc6
  clear hc6 hr6 hb hb3 hb4 hb5 hb6 hb7 HP HG HO c0 f0
  generalize w2.heap.size = cb at *
  go_cut [7] from 32 (fun v wc => ∃ eb g cap, v = .pointer (some ⟨eb, 0, none⟩) ∧ Hid (SendG w rb n me log x now its ow ev wv eb (.slice (some ⟨g, 0, none⟩) (log.length + 1) cap) 0 wc wv))
  case first =>
    have HS : Hid (∀ (W w7 : World) g cap, cb < W.heap.size → W.heap[cb]? = w6.heap[cb]? → Upd [some rb, ev.ownBlock] W w7 → w7.heap[rb]? = some (.cells (repG 1 n me (reachOf (log ++ [x])) now ow (.slice (some ⟨g, 0, none⟩) (log.length + 1) cap) wv) 113 (0, 0)) → w7.cell? ⟨rb, 2, none⟩ = some (.int .i64 (me : Int)) ∧ w7.cell? ⟨cb, 0, none⟩ = some (.int .i64 (x.c.k.num : Int)) ∧ w7.cell? ⟨cb, 1, none⟩ = some (.string x.c.word) ∧ w7.cell? ⟨cb, 2, none⟩ = some (.int .i64 (x.c.count : Int))) := fun W w7 g cap h1 h2 h3 h4 => by
      have h5 : w7.heap[cb]? = some (.cells #[.int .i64 (x.c.k.num : Int), .string x.c.word, .int .i64 (x.c.count : Int)] 116 (0, 0)) := (h3.block cb h1 fun hm => by
        simp only [List.mem_cons, List.not_mem_nil, or_false, Option.some.injEq] at hm
        rcases hm with hm | hm
        · omega
        · have := HEL.out cb hm.symm; omega).trans (h2.trans H6.out)
      exact ⟨by rw [cell_of_heap h4]; rfl, by rw [cell_of_heap h5]; rfl, by rw [cell_of_heap h5]; rfl, by rw [cell_of_heap h5]; rfl⟩
    have hs6 : w.heap.size ≤ w6.heap.size := by omega
    have HZ : Hid (∀ (w7 : World), Upd [some rb, ev.ownBlock] (w6.alloc (.cells #[.int .i64 0, .int .i64 0, .int .i64 0, .int .i64 0, .int .i64 0, .int .i64 0, .int .i64 0, .int .i64 0, .string { data := #[] }, .int .i64 0] 122)).drew w7 → w7.heap[w6.heap.size]? = some (.cells #[.int .i64 0, .int .i64 0, .int .i64 0, .int .i64 0, .int .i64 0, .int .i64 0, .int .i64 0, .int .i64 0, .string { data := #[] }, .int .i64 0] 122 (0, 0))) := fun w7 h3 =>
      (h3.block _ (by show w6.heap.size < (w6.alloc _).heap.size; simp) fun hm => by
        simp only [List.mem_cons, List.not_mem_nil, or_false, Option.some.injEq] at hm
        rcases hm with hm | hm
        · omega
        · have := HEL.out _ hm.symm; omega).trans (heap_alloc_new w6 _)
    have zf : ∀ (w7 : World) o, Upd [some rb, ev.ownBlock] (w6.alloc (.cells #[.int .i64 0, .int .i64 0, .int .i64 0, .int .i64 0, .int .i64 0, .int .i64 0, .int .i64 0, .int .i64 0, .string { data := #[] }, .int .i64 0] 122)).drew w7 → w7.frozen? ⟨w6.heap.size, o, none⟩ = false := fun w7 o h => frozen_of_heap (HZ.out w7 h) o
    have z0 : ∀ (w7 : World), Upd [some rb, ev.ownBlock] (w6.alloc (.cells #[.int .i64 0, .int .i64 0, .int .i64 0, .int .i64 0, .int .i64 0, .int .i64 0, .int .i64 0, .int .i64 0, .string { data := #[] }, .int .i64 0] 122)).drew w7 → w7.cell? ⟨w6.heap.size, 0, none⟩ = some (.int .i64 0) := fun w7 h => by rw [cell_of_heap (HZ.out w7 h)]; rfl
    have z1 : ∀ (w7 : World), Upd [some rb, ev.ownBlock] (w6.alloc (.cells #[.int .i64 0, .int .i64 0, .int .i64 0, .int .i64 0, .int .i64 0, .int .i64 0, .int .i64 0, .int .i64 0, .string { data := #[] }, .int .i64 0] 122)).drew w7 → w7.cell? ⟨w6.heap.size, 1, none⟩ = some (.int .i64 0) := fun w7 h => by rw [cell_of_heap (HZ.out w7 h)]; rfl
    have z2 : ∀ (w7 : World), Upd [some rb, ev.ownBlock] (w6.alloc (.cells #[.int .i64 0, .int .i64 0, .int .i64 0, .int .i64 0, .int .i64 0, .int .i64 0, .int .i64 0, .int .i64 0, .string { data := #[] }, .int .i64 0] 122)).drew w7 → w7.cell? ⟨w6.heap.size, 2, none⟩ = some (.int .i64 0) := fun w7 h => by rw [cell_of_heap (HZ.out w7 h)]; rfl
    have z3 : ∀ (w7 : World), Upd [some rb, ev.ownBlock] (w6.alloc (.cells #[.int .i64 0, .int .i64 0, .int .i64 0, .int .i64 0, .int .i64 0, .int .i64 0, .int .i64 0, .int .i64 0, .string { data := #[] }, .int .i64 0] 122)).drew w7 → w7.cell? ⟨w6.heap.size, 3, none⟩ = some (.int .i64 0) := fun w7 h => by rw [cell_of_heap (HZ.out w7 h)]; rfl
    have z4 : ∀ (w7 : World), Upd [some rb, ev.ownBlock] (w6.alloc (.cells #[.int .i64 0, .int .i64 0, .int .i64 0, .int .i64 0, .int .i64 0, .int .i64 0, .int .i64 0, .int .i64 0, .string { data := #[] }, .int .i64 0] 122)).drew w7 → w7.cell? ⟨w6.heap.size, 4, none⟩ = some (.int .i64 0) := fun w7 h => by rw [cell_of_heap (HZ.out w7 h)]; rfl
    have z5 : ∀ (w7 : World), Upd [some rb, ev.ownBlock] (w6.alloc (.cells #[.int .i64 0, .int .i64 0, .int .i64 0, .int .i64 0, .int .i64 0, .int .i64 0, .int .i64 0, .int .i64 0, .string { data := #[] }, .int .i64 0] 122)).drew w7 → w7.cell? ⟨w6.heap.size, 5, none⟩ = some (.int .i64 0) := fun w7 h => by rw [cell_of_heap (HZ.out w7 h)]; rfl
    have z6 : ∀ (w7 : World), Upd [some rb, ev.ownBlock] (w6.alloc (.cells #[.int .i64 0, .int .i64 0, .int .i64 0, .int .i64 0, .int .i64 0, .int .i64 0, .int .i64 0, .int .i64 0, .string { data := #[] }, .int .i64 0] 122)).drew w7 → w7.cell? ⟨w6.heap.size, 6, none⟩ = some (.int .i64 0) := fun w7 h => by rw [cell_of_heap (HZ.out w7 h)]; rfl
    have z7 : ∀ (w7 : World), Upd [some rb, ev.ownBlock] (w6.alloc (.cells #[.int .i64 0, .int .i64 0, .int .i64 0, .int .i64 0, .int .i64 0, .int .i64 0, .int .i64 0, .int .i64 0, .string { data := #[] }, .int .i64 0] 122)).drew w7 → w7.cell? ⟨w6.heap.size, 7, none⟩ = some (.int .i64 0) := fun w7 h => by rw [cell_of_heap (HZ.out w7 h)]; rfl
    have z8 : ∀ (w7 : World), Upd [some rb, ev.ownBlock] (w6.alloc (.cells #[.int .i64 0, .int .i64 0, .int .i64 0, .int .i64 0, .int .i64 0, .int .i64 0, .int .i64 0, .int .i64 0, .string { data := #[] }, .int .i64 0] 122)).drew w7 → w7.cell? ⟨w6.heap.size, 8, none⟩ = some (.string { data := #[] }) := fun w7 h => by rw [cell_of_heap (HZ.out w7 h)]; rfl
    have z9 : ∀ (w7 : World), Upd [some rb, ev.ownBlock] (w6.alloc (.cells #[.int .i64 0, .int .i64 0, .int .i64 0, .int .i64 0, .int .i64 0, .int .i64 0, .int .i64 0, .int .i64 0, .string { data := #[] }, .int .i64 0] 122)).drew w7 → w7.cell? ⟨w6.heap.size, 9, none⟩ = some (.int .i64 0) := fun w7 h => by rw [cell_of_heap (HZ.out w7 h)]; rfl
    have n1 : rb ≠ w6.heap.size := by omega
    have n2 : cb ≠ w6.heap.size := by omega
    have hmx : Tryz.prog.follows .mixedOrders = true := by kernel_rfl
    have hS : (fun w' : World => w'.cell? ⟨rb, 2, none⟩ = some (.int .i64 (me : Int)) ∧ w'.cell? ⟨cb, 0, none⟩ = some (.int .i64 (x.c.k.num : Int)) ∧ w'.cell? ⟨cb, 1, none⟩ = some (.string x.c.word) ∧ w'.cell? ⟨cb, 2, none⟩ = some (.int .i64 (x.c.count : Int))) w6.drew := ⟨a2, b0, b1, b2⟩
    refine wp_region_noPanic ?_
    refine wp_region_held (S := fun w' : World => w'.cell? ⟨rb, 2, none⟩ = some (.int .i64 (me : Int)) ∧ w'.cell? ⟨cb, 0, none⟩ = some (.int .i64 (x.c.k.num : Int)) ∧ w'.cell? ⟨cb, 1, none⟩ = some (.string x.c.word) ∧ w'.cell? ⟨cb, 2, none⟩ = some (.int .i64 (x.c.count : Int))) hmx ?_
    clear HZ zf z0 z1 z2 z3 z4 z5 z6 z7 z8 z9
    refine wpAnyH_take (i := 0) (v := (.pointer (some ⟨rb, 0, none⟩))) rfl (by kernel_rfl) (by kernel_rfl) (by kernel_rfl) (fun _ _ _ h => h) (Or.inl ⟨by rfl, ?_⟩) hS ?_
    · intro w hSw; obtain ⟨s0, s1, s2, s3⟩ := hSw; go_simp
    dsimp only [List.getElem_toArray, List.getElem_cons_zero, List.getElem_cons_succ]
    simp only [Act.put, List.setIfInBounds_toArray, List.set_cons_zero, List.set_cons_succ]
    refine wpAnyH_take (i := 1) (v := (.pointer (some ⟨rb, 0, none⟩))) rfl (by kernel_rfl) (by kernel_rfl) (by kernel_rfl) (fun _ _ _ h => h) (Or.inl ⟨by rfl, ?_⟩) hS ?_
    · intro w hSw; obtain ⟨s0, s1, s2, s3⟩ := hSw; go_simp
    dsimp only [List.getElem_toArray, List.getElem_cons_zero, List.getElem_cons_succ]
    simp only [Act.put, List.setIfInBounds_toArray, List.set_cons_zero, List.set_cons_succ]
    refine wpAnyH_take (i := 2) (v := (.pointer (some ⟨rb, 4, none⟩))) rfl (by kernel_rfl) (by kernel_rfl) (by kernel_rfl) (fun _ _ _ h => h) (Or.inl ⟨by rfl, ?_⟩) hS ?_
    · intro w hSw; obtain ⟨s0, s1, s2, s3⟩ := hSw; go_simp
    dsimp only [List.getElem_toArray, List.getElem_cons_zero, List.getElem_cons_succ]
    simp only [Act.put, List.setIfInBounds_toArray, List.set_cons_zero, List.set_cons_succ]
    refine wpAnyH_take (i := 3) (v := (.pointer (some ⟨rb, 0, none⟩))) rfl (by kernel_rfl) (by kernel_rfl) (by kernel_rfl) (fun _ _ _ h => h) (Or.inl ⟨by rfl, ?_⟩) hS ?_
    · intro w hSw; obtain ⟨s0, s1, s2, s3⟩ := hSw; go_simp
    dsimp only [List.getElem_toArray, List.getElem_cons_zero, List.getElem_cons_succ]
    simp only [Act.put, List.setIfInBounds_toArray, List.set_cons_zero, List.set_cons_succ]
    refine wpAnyH_take (i := 4) (v := (.pointer (some ⟨rb, 0, none⟩))) rfl (by kernel_rfl) (by kernel_rfl) (by kernel_rfl) (fun _ _ _ h => h) (Or.inl ⟨by rfl, ?_⟩) hS ?_
    · intro w hSw; obtain ⟨s0, s1, s2, s3⟩ := hSw; go_simp
    dsimp only [List.getElem_toArray, List.getElem_cons_zero, List.getElem_cons_succ]
    simp only [Act.put, List.setIfInBounds_toArray, List.set_cons_zero, List.set_cons_succ]
    refine wpAnyH_take (i := 5) (v := (.pointer (some ⟨rb, 2, none⟩))) rfl (by kernel_rfl) (by kernel_rfl) (by kernel_rfl) (fun _ _ _ h => h) (Or.inl ⟨by rfl, ?_⟩) hS ?_
    · intro w hSw; obtain ⟨s0, s1, s2, s3⟩ := hSw; go_simp
    dsimp only [List.getElem_toArray, List.getElem_cons_zero, List.getElem_cons_succ]
    simp only [Act.put, List.setIfInBounds_toArray, List.set_cons_zero, List.set_cons_succ]
    refine wpAnyH_take (i := 6) (v := (.int .i64 (me : Int))) rfl (by kernel_rfl) (by kernel_rfl) (by kernel_rfl) (fun _ _ _ h => h) (Or.inl ⟨by rfl, ?_⟩) hS ?_
    · intro w hSw; obtain ⟨s0, s1, s2, s3⟩ := hSw; go_simp
    dsimp only [List.getElem_toArray, List.getElem_cons_zero, List.getElem_cons_succ]
    simp only [Act.put, List.setIfInBounds_toArray, List.set_cons_zero, List.set_cons_succ]
    refine wpAnyH_take (i := 7) (v := (.agg #[.int .i64 (x.c.k.num : Int), .string x.c.word, .int .i64 (x.c.count : Int)])) rfl (by kernel_rfl) (by kernel_rfl) (by kernel_rfl) (fun _ _ _ h => h) (Or.inl ⟨by rfl, ?_⟩) hS ?_
    · intro w hSw; obtain ⟨s0, s1, s2, s3⟩ := hSw; go_simp
    dsimp only [List.getElem_toArray, List.getElem_cons_zero, List.getElem_cons_succ]
    simp only [Act.put, List.setIfInBounds_toArray, List.set_cons_zero, List.set_cons_succ]
    refine wpAnyH_ready (rs := [8, 9]) (by kernel_rfl) (by simp) ?_
    refine AllReadyH.cons rfl (fun K hK => ?_) (AllReadyH.cons rfl (fun K hK => ?_) AllReadyH.nil)
    · -- the call first
      rw [if_pos (by rfl)]
      dsimp only [List.getElem_toArray, List.getElem_cons_zero, List.getElem_cons_succ]
      go_simp
      refine (HD.out _ HB7.out.drew).mono ?_
      rintro e w7 ⟨rfl, g, cap, o1, o2, o3, o4, o5⟩
      have k7 := HS.out w6.drew w7 g cap hcl rfl o5 o4
      refine hK.out _ _ k7 (fun _ => ?_)
      clear hK K
      try simp only [Act.put, List.setIfInBounds_toArray, List.set_cons_zero, List.set_cons_succ]
      refine wpAnyH_ready (rs := [9]) (by kernel_rfl) (by simp) ?_
      refine AllReadyH.cons rfl (fun K hK => ?_) AllReadyH.nil
      rw [if_pos (by rfl)]
      dsimp only [List.getElem_toArray, List.getElem_cons_zero, List.getElem_cons_succ]
      go_simp
      have hz : (w7.alloc (.cells #[.int .i64 0, .int .i64 0, .int .i64 0, .int .i64 0, .int .i64 0, .int .i64 0, .int .i64 0, .int .i64 0, .string { data := #[] }, .int .i64 0] 122)).heap[w7.heap.size]? = some (.cells #[.int .i64 0, .int .i64 0, .int .i64 0, .int .i64 0, .int .i64 0, .int .i64 0, .int .i64 0, .int .i64 0, .string { data := #[] }, .int .i64 0] 122 (0, 0)) := heap_alloc_new w7 _
      have k8 := (show (fun w' : World => w'.cell? ⟨rb, 2, none⟩ = some (.int .i64 (me : Int)) ∧ w'.cell? ⟨cb, 0, none⟩ = some (.int .i64 (x.c.k.num : Int)) ∧ w'.cell? ⟨cb, 1, none⟩ = some (.string x.c.word) ∧ w'.cell? ⟨cb, 2, none⟩ = some (.int .i64 (x.c.count : Int))) (w7.alloc (.cells #[.int .i64 0, .int .i64 0, .int .i64 0, .int .i64 0, .int .i64 0, .int .i64 0, .int .i64 0, .int .i64 0, .string { data := #[] }, .int .i64 0] 122)) from ⟨cell_alloc' _ _ _ _ k7.1, cell_alloc' _ _ _ _ k7.2.1, cell_alloc' _ _ _ _ k7.2.2.1, cell_alloc' _ _ _ _ k7.2.2.2⟩)
      have u8 : Upd [] w7 (w7.alloc (.cells #[.int .i64 0, .int .i64 0, .int .i64 0, .int .i64 0, .int .i64 0, .int .i64 0, .int .i64 0, .int .i64 0, .string { data := #[] }, .int .i64 0] 122)) := (Upd.refl _ w7).alloc _
      have hs7 : w6.heap.size ≤ w7.heap.size := o5.size
      have hg7 : g < w7.heap.size := (o1.lt g rfl).2
      refine hK.out _ _ k8 (fun _ => ?_)
      obtain ⟨w8, hw8⟩ : ∃ w8, w7.alloc (.cells #[.int .i64 0, .int .i64 0, .int .i64 0, .int .i64 0, .int .i64 0, .int .i64 0, .int .i64 0, .int .i64 0, .string { data := #[] }, .int .i64 0] 122) = w8 := ⟨_, rfl⟩
      rw [hw8] at hz k8 u8 ⊢
      clear hw8
      generalize hebd : w7.heap.size = eb at *
      have m1 : rb ≠ eb := by omega
      have m2 : cb ≠ eb := by omega
      have z0 : w8.cell? ⟨eb, 0, none⟩ = some (.int .i64 0) := by rw [cell_of_heap hz]; rfl
      have z1 : w8.cell? ⟨eb, 1, none⟩ = some (.int .i64 0) := by rw [cell_of_heap hz]; rfl
      have z2 : w8.cell? ⟨eb, 2, none⟩ = some (.int .i64 0) := by rw [cell_of_heap hz]; rfl
      have z3 : w8.cell? ⟨eb, 3, none⟩ = some (.int .i64 0) := by rw [cell_of_heap hz]; rfl
      have z4 : w8.cell? ⟨eb, 4, none⟩ = some (.int .i64 0) := by rw [cell_of_heap hz]; rfl
      have z5 : w8.cell? ⟨eb, 5, none⟩ = some (.int .i64 0) := by rw [cell_of_heap hz]; rfl
      have z6 : w8.cell? ⟨eb, 6, none⟩ = some (.int .i64 0) := by rw [cell_of_heap hz]; rfl
      have z7 : w8.cell? ⟨eb, 7, none⟩ = some (.int .i64 0) := by rw [cell_of_heap hz]; rfl
      have z8 : w8.cell? ⟨eb, 8, none⟩ = some (.string { data := #[] }) := by rw [cell_of_heap hz]; rfl
      have z9 : w8.cell? ⟨eb, 9, none⟩ = some (.int .i64 0) := by rw [cell_of_heap hz]; rfl
      have zf : ∀ o, w8.frozen? ⟨eb, o, none⟩ = false := frozen_of_heap hz
      clear hK K
      try simp only [Act.put, List.setIfInBounds_toArray, List.set_cons_zero, List.set_cons_succ]
      refine wpAnyH_ready (rs := [10]) (by kernel_rfl) (by simp) ?_
      refine AllReadyH.cons rfl (fun K hK => ?_) AllReadyH.nil
      rw [if_pos (by rfl)]
      dsimp only [List.getElem_toArray, List.getElem_cons_zero, List.getElem_cons_succ]
      go_simp
      refine hK.out _ _ ⟨cell_set10 _ _ _ _ _ _ _ _ _ _ _ _ _ _ m1 k8.1, cell_set10 _ _ _ _ _ _ _ _ _ _ _ _ _ _ m2 k8.2.1, cell_set10 _ _ _ _ _ _ _ _ _ _ _ _ _ _ m2 k8.2.2.1, cell_set10 _ _ _ _ _ _ _ _ _ _ _ _ _ _ m2 k8.2.2.2⟩ (fun _ => ?_)
      clear hK K
      refine wpAnyH_done (by kernel_rfl) ?_ _
      refine NoPanic.normal ?_
      have hsI := sendG_start (x := x) (eb := eb) HLk.out hrl HWL.out HB7.out.drew o1 o2 o3 o4 o5 (set10 hz _ _ _ _ _ _ _ _ _ _).1 ((u8.mono (T := [some eb]) (by simp)).trans (set10 hz _ _ _ _ _ _ _ _ _ _).2 (fun i hi => .inl hi)) (by omega) (by omega)
      go_wp2_with fail
      go_meet
      case rel => exact ⟨eb, g, cap, rfl, hsI⟩
    · -- the alloc first
      rw [if_pos (by rfl)]
      dsimp only [List.getElem_toArray, List.getElem_cons_zero, List.getElem_cons_succ]
      go_simp
      obtain ⟨wx, hwx⟩ : ∃ wx, (w6.alloc (.cells #[.int .i64 0, .int .i64 0, .int .i64 0, .int .i64 0, .int .i64 0, .int .i64 0, .int .i64 0, .int .i64 0, .string { data := #[] }, .int .i64 0] 122)).drew = wx := ⟨_, rfl⟩
      have hbx : Below w.heap.size (w.setCell ⟨rb, 0, none⟩ (.int .i32 1)) wx := by rw [← hwx]; exact (HB7.out.alloc hs6 _).drew
      have hzx : wx.heap[w6.heap.size]? = some (.cells #[.int .i64 0, .int .i64 0, .int .i64 0, .int .i64 0, .int .i64 0, .int .i64 0, .int .i64 0, .int .i64 0, .string { data := #[] }, .int .i64 0] 122 (0, 0)) := by rw [← hwx]; exact heap_alloc_new w6 _
      have hcx : wx.heap[cb]? = w6.heap[cb]? := by rw [← hwx]; exact Below.heap_alloc w6 _ cb hcl
      have hsx : wx.heap.size = w6.heap.size + 1 := by rw [← hwx]; show (w6.alloc _).heap.size = _; simp
      have kx : (fun w' : World => w'.cell? ⟨rb, 2, none⟩ = some (.int .i64 (me : Int)) ∧ w'.cell? ⟨cb, 0, none⟩ = some (.int .i64 (x.c.k.num : Int)) ∧ w'.cell? ⟨cb, 1, none⟩ = some (.string x.c.word) ∧ w'.cell? ⟨cb, 2, none⟩ = some (.int .i64 (x.c.count : Int))) wx := by rw [← hwx]; exact ⟨cell_alloc' _ _ _ _ a2, cell_alloc' _ _ _ _ b0, cell_alloc' _ _ _ _ b1, cell_alloc' _ _ _ _ b2⟩
      rw [hwx]
      refine hK.out _ _ kx (fun _ => ?_)
      clear hwx
      clear hK K
      try simp only [Act.put, List.setIfInBounds_toArray, List.set_cons_zero, List.set_cons_succ]
      refine wpAnyH_ready (rs := [8]) (by kernel_rfl) (by simp) ?_
      refine AllReadyH.cons rfl (fun K hK => ?_) AllReadyH.nil
      rw [if_pos (by rfl)]
      dsimp only [List.getElem_toArray, List.getElem_cons_zero, List.getElem_cons_succ]
      go_simp
      refine (HD.out wx hbx).mono ?_
      rintro e w7 ⟨rfl, g, cap, o1, o2, o3, o4, o5⟩
      have k8 := HS.out wx w7 g cap (by omega) hcx o5 o4
      refine hK.out _ _ k8 (fun _ => ?_)
      have hz : w7.heap[w6.heap.size]? = some (.cells #[.int .i64 0, .int .i64 0, .int .i64 0, .int .i64 0, .int .i64 0, .int .i64 0, .int .i64 0, .int .i64 0, .string { data := #[] }, .int .i64 0] 122 (0, 0)) := (o5.block _ (by omega) fun hm => by
        simp only [List.mem_cons, List.not_mem_nil, or_false, Option.some.injEq] at hm
        rcases hm with hm | hm
        · omega
        · have := HEL.out _ hm.symm; omega).trans hzx
      have hge : g ≠ w6.heap.size := by
        rcases o2 with h | h
        · have := HEL.out g h; omega
        · omega
      generalize hebd : w6.heap.size = eb at *
      have m1 : rb ≠ eb := by omega
      have m2 : cb ≠ eb := by omega
      have z0 : w7.cell? ⟨eb, 0, none⟩ = some (.int .i64 0) := by rw [cell_of_heap hz]; rfl
      have z1 : w7.cell? ⟨eb, 1, none⟩ = some (.int .i64 0) := by rw [cell_of_heap hz]; rfl
      have z2 : w7.cell? ⟨eb, 2, none⟩ = some (.int .i64 0) := by rw [cell_of_heap hz]; rfl
      have z3 : w7.cell? ⟨eb, 3, none⟩ = some (.int .i64 0) := by rw [cell_of_heap hz]; rfl
      have z4 : w7.cell? ⟨eb, 4, none⟩ = some (.int .i64 0) := by rw [cell_of_heap hz]; rfl
      have z5 : w7.cell? ⟨eb, 5, none⟩ = some (.int .i64 0) := by rw [cell_of_heap hz]; rfl
      have z6 : w7.cell? ⟨eb, 6, none⟩ = some (.int .i64 0) := by rw [cell_of_heap hz]; rfl
      have z7 : w7.cell? ⟨eb, 7, none⟩ = some (.int .i64 0) := by rw [cell_of_heap hz]; rfl
      have z8 : w7.cell? ⟨eb, 8, none⟩ = some (.string { data := #[] }) := by rw [cell_of_heap hz]; rfl
      have z9 : w7.cell? ⟨eb, 9, none⟩ = some (.int .i64 0) := by rw [cell_of_heap hz]; rfl
      have zf : ∀ o, w7.frozen? ⟨eb, o, none⟩ = false := frozen_of_heap hz
      clear hK K
      try simp only [Act.put, List.setIfInBounds_toArray, List.set_cons_zero, List.set_cons_succ]
      refine wpAnyH_ready (rs := [10]) (by kernel_rfl) (by simp) ?_
      refine AllReadyH.cons rfl (fun K hK => ?_) AllReadyH.nil
      rw [if_pos (by rfl)]
      dsimp only [List.getElem_toArray, List.getElem_cons_zero, List.getElem_cons_succ]
      go_simp
      refine hK.out _ _ ⟨cell_set10 _ _ _ _ _ _ _ _ _ _ _ _ _ _ m1 k8.1, cell_set10 _ _ _ _ _ _ _ _ _ _ _ _ _ _ m2 k8.2.1, cell_set10 _ _ _ _ _ _ _ _ _ _ _ _ _ _ m2 k8.2.2.1, cell_set10 _ _ _ _ _ _ _ _ _ _ _ _ _ _ m2 k8.2.2.2⟩ (fun _ => ?_)
      clear hK K
      refine wpAnyH_done (by kernel_rfl) ?_ _
      refine NoPanic.normal ?_
      have hsI := sendG_start (x := x) (eb := eb) HLk.out hrl HWL.out hbx o1 o2 o3 o4 o5 (set10 hz _ _ _ _ _ _ _ _ _ _).1 (set10 hz _ _ _ _ _ _ _ _ _ _).2 (by omega) hge
      go_wp2_with fail
      go_meet
      case rel => exact ⟨eb, g, cap, rfl, hsI⟩
  case rest =>
    obtain ⟨eb, g, cap, rfl, hI⟩ := hcut
    clear a2 b0 b1 b2 H6 HB7 hcl hw26 HD
    generalize Value.slice (some ⟨g, 0, none⟩) (log.length + 1) cap = ev' at *
    have r3 : wc.cell? ⟨rb, 3, none⟩ = some (.int .i64 (n : Int)) := by rw [cell_of_heap hI.out.rbk]; rfl
    go_wp2
    go_loopw [45] (fun v wr => ∃ (j : Nat) (wj : Value), j ≤ n ∧ v = .int .i64 (j : Int) ∧ Hid (SendG w rb n me log x now its ow ev wv eb ev' j wr wj)) (fun v _ => n - (intOf v).toNat)
    case atStart => exact ⟨0, wv, by omega, rfl, hI⟩
    case round =>
      obtain ⟨j, wj, hjn, rfl, hJ⟩ := hrel
      have q2 : wr.cell? ⟨rb, 2, none⟩ = some (.int .i64 (me : Int)) := by rw [cell_of_heap hJ.out.rbk]; rfl
      by_cases hlt : j < n
      · by_cases hjm : j = me
        · have HN : Hid (SendG w rb n me log x now its ow ev wv eb ev' (j + 1) wr wj) := by
            have h := hJ.out
            subst hjm
            exact ⟨h.rbk, h.erow, h.eB, by rw [newIts_me]; exact h.row, h.wB, h.ent, h.ebl, h.upd⟩
          subst hjm
          go_wp2
          go_roundw
          case rel => exact ⟨j + 1, wj, by omega, by go_num, HN⟩
          case measure => simp [intOf]; omega
        · have HB : Hid (Calls Tryz.prog 50 #[.pointer (some ⟨rb, 10, none⟩), .int .i64 (j : Int), .agg #[.int .i64 (me : Int), .int .i64 (x.seq : Int), .int .i64 (x.ah.a : Int), .int .i64 (x.ah.b : Int), .int .i64 (x.ah.c : Int), .int .i64 (x.ah.d : Int), .int .i64 (x.ah.e : Int), .int .i64 (x.c.k.num : Int), .string x.c.word, .int .i64 (x.c.count : Int)]] wr.drew fun e w' => e = .returned (.tuple #[]) ∧ ∃ wj', SendG w rb n me log x now its ow ev wv eb ev' (j + 1) w' wj') := hJ.out.drew.boxput hi hnow (by omega) HXO.out hrl hjm
          have hji : ¬ ((j : Int) = (me : Int)) := by omega
          have he := hJ.out.ent
          have e0 : wr.cell? ⟨eb, 0, none⟩ = some (.int .i64 (me : Int)) := by rw [cell_of_heap he]; rfl
          have e1 : wr.cell? ⟨eb, 1, none⟩ = some (.int .i64 (x.seq : Int)) := by rw [cell_of_heap he]; rfl
          have e2 : wr.cell? ⟨eb, 2, none⟩ = some (.int .i64 (x.ah.a : Int)) := by rw [cell_of_heap he]; rfl
          have e3 : wr.cell? ⟨eb, 3, none⟩ = some (.int .i64 (x.ah.b : Int)) := by rw [cell_of_heap he]; rfl
          have e4 : wr.cell? ⟨eb, 4, none⟩ = some (.int .i64 (x.ah.c : Int)) := by rw [cell_of_heap he]; rfl
          have e5 : wr.cell? ⟨eb, 5, none⟩ = some (.int .i64 (x.ah.d : Int)) := by rw [cell_of_heap he]; rfl
          have e6 : wr.cell? ⟨eb, 6, none⟩ = some (.int .i64 (x.ah.e : Int)) := by rw [cell_of_heap he]; rfl
          have e7 : wr.cell? ⟨eb, 7, none⟩ = some (.int .i64 (x.c.k.num : Int)) := by rw [cell_of_heap he]; rfl
          have e8 : wr.cell? ⟨eb, 8, none⟩ = some (.string x.c.word) := by rw [cell_of_heap he]; rfl
          have e9 : wr.cell? ⟨eb, 9, none⟩ = some (.int .i64 (x.c.count : Int)) := by rw [cell_of_heap he]; rfl
          clear he
          go_upto_region 15 with fail
          go_region_held3 (fun w' => w'.cell? ⟨eb, 0, none⟩ = some (.int .i64 (me : Int)) ∧ w'.cell? ⟨eb, 1, none⟩ = some (.int .i64 (x.seq : Int)) ∧ w'.cell? ⟨eb, 2, none⟩ = some (.int .i64 (x.ah.a : Int)) ∧ w'.cell? ⟨eb, 3, none⟩ = some (.int .i64 (x.ah.b : Int)) ∧ w'.cell? ⟨eb, 4, none⟩ = some (.int .i64 (x.ah.c : Int)) ∧ w'.cell? ⟨eb, 5, none⟩ = some (.int .i64 (x.ah.d : Int)) ∧ w'.cell? ⟨eb, 6, none⟩ = some (.int .i64 (x.ah.e : Int)) ∧ w'.cell? ⟨eb, 7, none⟩ = some (.int .i64 (x.c.k.num : Int)) ∧ w'.cell? ⟨eb, 8, none⟩ = some (.string x.c.word) ∧ w'.cell? ⟨eb, 9, none⟩ = some (.int .i64 (x.c.count : Int)))
            (first
              | exact ⟨e0, e1, e2, e3, e4, e5, e6, e7, e8, e9⟩
              | exact ⟨by rw [cell_of_heap hI2.ent]; rfl, by rw [cell_of_heap hI2.ent]; rfl, by rw [cell_of_heap hI2.ent]; rfl, by rw [cell_of_heap hI2.ent]; rfl, by rw [cell_of_heap hI2.ent]; rfl, by rw [cell_of_heap hI2.ent]; rfl, by rw [cell_of_heap hI2.ent]; rfl, by rw [cell_of_heap hI2.ent]; rfl, by rw [cell_of_heap hI2.ent]; rfl, by rw [cell_of_heap hI2.ent]; rfl⟩
              | fail)
            (first
              | (go_at_call 50; refine HB.out.mono ?_; rintro e w2 ⟨rfl, wj2, hI2⟩))
          have HI2 : Hid (SendG w rb n me log x now its ow ev wv eb ev' (j + 1) w2 wj2) := hI2
          clear hI2
          go_wp2
          go_roundw
          case rel => exact ⟨j + 1, wj2, by omega, by go_num, HI2⟩
          case measure => simp [intOf]; omega
      · obtain rfl : j = n := by omega
        go_wp2
        refine leaves_cons (f := 45) (args := #[.pointer (some ⟨rb, 0, none⟩)]) (by simp) (by simp [go_sem]) ?_
        refine (unlock_deferred muLib ⟨rb, 0, none⟩ .returning _ (by rw [cell_of_heap hJ.out.rbk]; rfl) (frozen_of_heap hJ.out.rbk 0)).mono ?_
        rintro e u' w'' ⟨rfl, rfl, rfl⟩
        obtain ⟨its', r1, r2, r3⟩ := hJ.out.row
        refine ⟨_, results_tmp rfl _ _ _, rfl, hJ.out.upd.setCell (.inl (by simp)) _, ev', wj, its', ⟨?_, ?_, fun e => (hJ.out.eB rb e).1 rfl, owns_setCell_other r1 (fun b hb => (hJ.out.wB b hb).1) _, fun e => (hJ.out.wB rb e).1 rfl, fun b hb => (hJ.out.wB b hb).2.1, r3⟩, r2, fun b hb => (hJ.out.eB b hb).2, fun b hb => (hJ.out.wB b hb).2.2⟩
        · rw [heap_setCell_same hJ.out.rbk, repG_lock]
        · rw [List.length_append]; exact owns_setCell_other hJ.out.erow (fun b hb => (hJ.out.eB b hb).1) _

end Go.Proofs.YtckmppkdpnhodaaGreatDoor
