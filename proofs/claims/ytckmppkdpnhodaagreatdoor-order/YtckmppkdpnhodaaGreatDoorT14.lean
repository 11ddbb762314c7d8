/-
  (*Box).Known. Replicas that hear of each other, purely: states, letters, what stays true of them. Contract of (*Replica).hasWhatGoes. The cart of a log against the document's: goesB is the opposite of lacks; numbers, coupons, notes. The text of a log's cart is the document's view of it. Contract of (*strings.Builder).WriteString at this program (the shelf's own does not lay here: its copyCheck was cut otherwise).
-/
import Derived.Test.YtckmppkdpnhodaaGreatDoorT13
import Derived.Test.YtckmppkdpnhodaaGreatDoorT07
import Derived.Test.YtckmppkdpnhodaaGreatDoorT09
import Derived.Shelf.Strings.BuilderK
import Derived.Test.YtckmppkdpnhodaaGreatDoorProg
import Derived.WalkKit
namespace Go.Proofs.YtckmppkdpnhodaaGreatDoor
set_option linter.unusedVariables false
set_option linter.unusedSimpArgs false
open Go.RowKit Go.Proofs

attribute [local go_sem ↓] Go.wp_at_zero Go.wp_at_succ

set_option maxRecDepth 100000 in
set_option maxHeartbeats 2000000 in
theorem index_nil (fv : Value) (w : World) : Calls Tryz.prog 148 #[.slice none 0 0, fv] w fun e w' => e = .returned (.int .i64 (-1)) ∧ w' = w := by
  go_enter Tryz.func148, Tryz.ntmps148
  go_wp2
  go_loopw [8] (fun v wr => v = .int .i64 0 ∧ wr = w) (fun _ _ => 0)
  case atStart => exact ⟨rfl, rfl⟩
  case round =>
    obtain ⟨rfl, rfl⟩ := hrel
    go_wp2
    go_ret
    exact ⟨rfl, rfl⟩

set_option maxRecDepth 100000 in
set_option maxHeartbeats 2000000 in
theorem delete_nil (fv : Value) (w : World) : Calls Tryz.prog 108 #[.slice none 0 0, fv] w fun e w' => e = .returned (.slice none 0 0) ∧ w' = w := by
  have HX : Hid (Calls Tryz.prog 148 #[.slice none 0 0, fv] w fun e w' => e = .returned (.int .i64 (-1)) ∧ w' = w) := index_nil fv w
  go_enter Tryz.func108, Tryz.ntmps108
  go_wp2_with (go_at_call 148; refine Calls.mono HX.out ?_; rintro e wi ⟨rfl, hw⟩; have hw' := hw.symm; clear hw; subst hw')
  go_ret
  exact ⟨rfl, rfl⟩

/-- What Known of the box leaves. -/
structure KTo (w : World) (rb : Nat) (C : Array Value) (T : TypeId) (wv : Value) (wv' : Value) (its' : List It) (W : World) : Prop where
  q : QAt W rb (C.setIfInBounds 11 wv') T wv' its'
  own : wv'.ownBlock = wv.ownBlock
  upd : Upd [some rb, wv.ownBlock] w W

set_option maxRecDepth 100000 in
set_option maxHeartbeats 8000000 in
theorem knownG (rb to cnt : Nat) (its : List It) (hl : its.length ≤ 1000) (wv : Value) (C : Array Value) (T : TypeId) (w : World) (hq : QAt w rb C T wv its) :
    Calls Tryz.prog 61 #[.pointer (some ⟨rb, 10, none⟩), .int .i64 (to : Int), .int .i64 (cnt : Int)] w fun e w' => e = .returned (.tuple #[]) ∧ ∃ wv' its', KTo w rb C T wv wv' its' w' ∧ its'.Perm (keepL to cnt its) ∧ HeapFrom 0 its'.length (kF its') := by
  have hrl : rb < w.heap.size := (Array.getElem?_eq_some_iff.1 hq.rbk).1
  have hC : 11 < C.size := (Array.getElem?_eq_some_iff.1 hq.c11).1
  obtain ⟨wa, hwa⟩ : ∃ wa, (w.alloc (.cells #[.int .i64 (to : Int)] 3)).alloc (.cells #[.int .i64 (cnt : Int)] 3) = wa := ⟨_, rfl⟩
  have hba : Below w.heap.size w wa := by rw [← hwa]; exact ((Below.refl _ w).alloc (Nat.le_refl _) _).alloc (by simp) _
  have hta : wa.heap[w.heap.size]? = some (.cells #[.int .i64 (to : Int)] 3 (0, 0)) := by rw [← hwa]; exact (Below.heap_alloc _ _ _ (by simp)).trans (heap_alloc_new w _)
  have hca : wa.heap[w.heap.size + 1]? = some (.cells #[.int .i64 (cnt : Int)] 3 (0, 0)) := by
    rw [← hwa]
    have := heap_alloc_new (w.alloc (.cells #[.int .i64 (to : Int)] 3)) (.cells #[.int .i64 (cnt : Int)] 3)
    simpa only [World.size_alloc] using this
  have hqa := hq.below hba
  have c11 : wa.cell? ⟨rb, 11, none⟩ = some wv := by rw [cell_of_heap hqa.rbk]; exact hqa.c11
  have hwl : ∀ b, wv.ownBlock = some b → b < w.heap.size := fun b hb => (hq.row.lt b hb).2
  have HD : Hid (Calls Tryz.prog 108 #[wv, .func (.func 109) #[] #[.pointer (some ⟨w.heap.size, 0, none⟩), .pointer (some ⟨w.heap.size + 1, 0, none⟩)]] wa fun e w' =>
      ∃ p n c, e = .returned (.slice p n c) ∧ w'.cell? ⟨rb, 11, none⟩ = some wv ∧ w'.frozen? ⟨rb, 11, none⟩ = false ∧ Hid ((Value.slice p n c).ownBlock = wv.ownBlock ∧ w'.ownsRow 0 171 12 (.slice p n c) (keepL to cnt its).length (itRow (keepL to cnt its)) ∧ w'.heap[rb]? = some (.cells C T (0, 0)) ∧ Upd [wv.ownBlock] wa w')) := by
    rcases id hqa.row.2 with ⟨h1, h0⟩ | ⟨g, cap, cur, h1, -, hg, hle, hm, hs, ht⟩
    · subst h1
      refine (delete_nil _ wa).mono ?_
      rintro e w' ⟨rfl, rfl⟩
      have he : its = [] := List.length_eq_zero_iff.1 h0
      subst he
      exact ⟨none, 0, 0, rfl, c11, frozen_of_heap hqa.rbk _, rfl, hqa.row, hqa.rbk, Upd.refl _ _⟩
    · subst h1
      have hgr : g ≠ rb := fun e => hq.ne (by rw [e]; rfl)
      have hgl := hwl g rfl
      refine (deleteG g cap w.heap.size (w.heap.size + 1) to cnt its hl cur hm wa ⟨hg, hle, by omega, ht⟩ (by omega) (by omega) (by rw [cell_of_heap hta]; rfl) (by rw [cell_of_heap hca]; rfl)).mono ?_
      rintro e w' ⟨rfl, cur', hr, hcs, hu⟩
      have hrb' : w'.heap[rb]? = some (.cells C T (0, 0)) := (hu.block rb (Array.getElem?_eq_some_iff.1 hqa.rbk).1 (by simp; exact fun e => hgr e.symm)).trans hqa.rbk
      exact ⟨_, _, _, rfl, by rw [cell_of_heap hrb']; exact hq.c11, frozen_of_heap hrb' _, rfl, own_of_qrow hr (hcs.trans hs) hm (Nat.zero_le _), hrb', hu⟩
  have HI : Hid (∀ w1 p n c, Hid ((Value.slice p n c).ownBlock = wv.ownBlock ∧ w1.ownsRow 0 171 12 (.slice p n c) (keepL to cnt its).length (itRow (keepL to cnt its)) ∧ w1.heap[rb]? = some (.cells C T (0, 0)) ∧ Upd [wv.ownBlock] wa w1) → Calls Tryz.prog 110 #[.iface 175 (.pointer (some ⟨rb, 11, none⟩))] (w1.setCell ⟨rb, 11, none⟩ (.slice p n c)) fun e w' => e = .returned (.tuple #[]) ∧ ∃ wv' its', KTo w rb C T wv wv' its' w' ∧ its'.Perm (keepL to cnt its) ∧ HeapFrom 0 its'.length (kF its')) := fun w1 p n c h1 => by
    obtain ⟨ho, hr1, hb1, hu1⟩ := h1.out
    have hne : (Value.slice p n c).ownBlock ≠ some rb := by rw [ho]; exact hq.ne
    have hqs : QAt (w1.setCell ⟨rb, 11, none⟩ (.slice p n c)) rb (C.setIfInBounds 11 (.slice p n c)) T (.slice p n c) (keepL to cnt its) :=
      ⟨heap_setCell_same hb1 _, Array.getElem?_setIfInBounds_self_of_lt hC, owns_setCell_other hr1 (fun b hb e => hne (by rw [hb, e])) _, hne⟩
    refine (initG rb (keepL to cnt its) (Nat.le_trans (keepL_le _ _ _) hl) (.slice p n c) _ T _ hqs).mono ?_
    rintro e w' ⟨he, its', hq', hp, hh, hu'⟩
    refine ⟨he, .slice p n c, its', ⟨hq', ho, ?_⟩, hp, hh⟩
    have u1 : Upd [some rb, wv.ownBlock] w (w1.setCell ⟨rb, 11, none⟩ (.slice p n c)) := ((Upd.of_below (S := [some rb, wv.ownBlock]) hba).trans hu1 (fun i hi => .inl (List.mem_cons_of_mem _ hi))).setCell (.inl (by simp)) _
    rw [ho] at hu'
    exact u1.trans hu' (fun i hi => .inl (List.mem_cons_of_mem _ hi))
  clear hq hqa hta hca
  go_enter Tryz.func61, Tryz.ntmps61
  go_wp2_with (first
    | (go_at_call 108; refine Calls.mono HD.out ?_; rintro e w1 ⟨p, n, c, rfl, d11, df, h1⟩)
    | (go_at_call 110; refine Calls.mono (HI.out _ _ _ _ h1) ?_; rintro e w2 ⟨rfl, wv', its', o⟩))
  go_end0
  exact ⟨rfl, wv', its', o⟩

end Go.Proofs.YtckmppkdpnhodaaGreatDoor

namespace Go.Proofs.YtckmppkdpnhodaaGreatDoor
set_option linter.unusedVariables false
set_option linter.unusedSimpArgs false
open Go.RowKit Go.Proofs

/-- A replica's state: what it knows, its time, what waits to be sent, whom an answer is owed. -/
structure Sr where
  log : List En
  now : Nat
  its : List It
  owed : Nat → Bool

/-- A letter: from whom, to whom, how many commands of the other are known, commands. -/
structure Lt where
  src : Nat
  dst : Nat
  h : Nat
  es : List En

/-- What waits for a replica. -/
def waitL (its : List It) (j : Nat) : List En := (its.filter fun p => decide (p.to = j)).map fun p => p.en

theorem waitL_length (its : List It) (j : Nat) : (waitL its j).length = cntI its j := by simp [waitL, cntI, List.countP_eq_length_filter]

theorem mem_waitL {its : List It} {j : Nat} {x : En} : x ∈ waitL its j ↔ ∃ p ∈ its, p.to = j ∧ p.en = x := by
  simp [waitL, and_assoc]

/-- A replica among n whose state is well. -/
structure SrOk (n i : Nat) (s : Sr) : Prop where
  log : LogFrom i [] s.log
  org : ∀ x ∈ s.log, x.org < n
  to : ∀ p ∈ s.its, p.to < n ∧ p.to ≠ i ∧ p.due ≤ s.now + 1
  room : ∀ j, cntI s.its j ≤ 8
  owe : ∀ j, s.owed j = true → j < n ∧ j ≠ i

/-- The replicas' states are well, each and together. -/
structure NetOk (n : Nat) (S : Nat → Sr) : Prop where
  one : ∀ i, i < n → SrOk n i (S i)
  src : ∀ i, i < n → ∀ x ∈ (S i).log, x ∈ (S x.org).log
  wait : ∀ i, i < n → ∀ j, j < n → j ≠ i → ∃ a, a ≤ cntL (S j).log i ∧ (waitL (S i).its j).Perm ((ownL i (S i).log).drop a)

/-- A letter that a replica may have written. -/
structure LtOk (n : Nat) (S : Nat → Sr) (L : Lt) : Prop where
  src : L.src < n
  dst : L.dst < n
  ne : L.dst ≠ L.src
  h : L.h ≤ cntL (S L.src).log L.dst
  es : ∀ x ∈ L.es, x ∈ (S L.src).log ∧ x.org = L.src

def updS (S : Nat → Sr) (i : Nat) (s : Sr) : Nat → Sr := fun k => if k = i then s else S k

theorem updS_same (S : Nat → Sr) (i : Nat) (s : Sr) : updS S i s i = s := by simp [updS]
theorem updS_other (S : Nat → Sr) {i k : Nat} (s : Sr) (h : k ≠ i) : updS S i s k = S k := by simp [updS, h]

/-- The state behind a letter that is taken. -/
def takeS (s : Sr) (L : Lt) : Sr := ⟨learnAll s.log L.es, s.now, keepL L.src L.h s.its, if L.es = [] then s.owed else fun k => if k = L.src then true else s.owed k⟩

/-- Logs grow, own ones among them by doing alone. -/
theorem NetOk.lt {n : Nat} {S : Nat → Sr} (_ : NetOk n S) {S' : Nat → Sr} (hg : ∀ i, i < n → ∃ l, (S' i).log = (S i).log ++ l) {L : Lt} (hL : LtOk n S L) : LtOk n S' L := by
  obtain ⟨l, hl⟩ := hg L.src hL.src
  refine ⟨hL.src, hL.dst, hL.ne, ?_, fun x hx => ⟨?_, (hL.es x hx).2⟩⟩
  · rw [hl, cntL_append]; exact Nat.le_trans hL.h (Nat.le_add_right _ _)
  · rw [hl]; exact List.mem_append_left _ (hL.es x hx).1

theorem waitL_keep (j to cnt : Nat) (its : List It) : waitL (keepL to cnt its) j = if j = to then (waitL its j).filter (fun x => decide (cnt < x.seq)) else waitL its j := by
  unfold waitL keepL
  by_cases e : j = to
  · subst e
    rw [if_pos rfl, List.filter_map, List.filter_filter, List.filter_filter]
    congr 1
    refine List.filter_congr fun p _ => ?_
    by_cases h : p.to = j <;> by_cases h2 : p.en.seq ≤ cnt <;> simp [delB, h, h2] <;> omega
  · rw [if_neg e, List.filter_filter]
    congr 1
    refine List.filter_congr fun p _ => ?_
    by_cases h : p.to = j
    · have : p.to ≠ to := fun h' => e (h ▸ h')
      simp [delB, h, e]
    · simp [h]

theorem drop_filter {me o : Nat} : ∀ {l : List En} (m : Nat), (∀ (k : Nat) (x : En), l[k]? = some x → x.seq = m + k + 1 ∧ x.org = o) → ∀ (cnt : Nat), l.filter (fun x => decide (cnt < x.seq)) = l.drop (cnt - m)
  | [], m, _, cnt => by simp
  | x :: l, m, h, cnt => by
    have h0 := (h 0 x rfl).1
    have ih := drop_filter (me := me) (o := o) (l := l) (m + 1) (fun k y hy => by have := h (k + 1) y (by simpa using hy); omega) cnt
    rw [List.filter_cons, ih]
    by_cases e : cnt < x.seq
    · have e1 : cnt - m = 0 := by omega
      have e2 : cnt - (m + 1) = 0 := by omega
      rw [if_pos (by simpa using e), e1, e2]
      rfl
    · rw [if_neg (by simpa using e), show cnt - m = (cnt - (m + 1)) + 1 by omega]
      rfl

theorem own_drop_filter {me o : Nat} {log : List En} (h : LogFrom me [] log) (a cnt : Nat) : ((ownL o log).drop a).filter (fun x => decide (cnt < x.seq)) = (ownL o log).drop (max a cnt) := by
  have hs : ∀ (k : Nat) (x : En), ((ownL o log).drop a)[k]? = some x → x.seq = a + k + 1 ∧ x.org = o := fun k x hx => by
    rw [List.getElem?_drop] at hx
    have h1 := h.seq hx
    have h0 : cntL ([] : List En) o = 0 := rfl
    exact ⟨by omega, (mem_ownL.1 (List.mem_of_getElem? hx)).2⟩
  rw [drop_filter (me := me) (o := o) a hs cnt, List.drop_drop]
  congr 1
  omega

theorem cntI_keep_le (its : List It) (to cnt j : Nat) : cntI (keepL to cnt its) j ≤ cntI its j := by
  rw [← waitL_length, ← waitL_length, waitL_keep]
  split
  · exact List.length_filter_le _ _
  · exact Nat.le_refl _

/-- A letter that some replica wrote comes to the one that it was written to. -/
theorem NetOk.take {n : Nat} {S : Nat → Sr} (hS : NetOk n S) {L : Lt} (hL : LtOk n S L) : NetOk n (updS S L.dst (takeS (S L.dst) L)) := by
  have hd := hS.one L.dst hL.dst
  have hne : ∀ x ∈ L.es, x.org ≠ L.dst := fun x hx e => hL.ne (e ▸ (hL.es x hx).2)
  have hgrow : ∀ i, ∃ l, (updS S L.dst (takeS (S L.dst) L) i).log = (S i).log ++ l := fun i => by
    by_cases e : i = L.dst
    · subst e; rw [updS_same]; exact learnAll_prefix _ _
    · rw [updS_other _ _ e]; exact ⟨[], by simp⟩
  have hown : ∀ i, ownL i (updS S L.dst (takeS (S L.dst) L) i).log = ownL i (S i).log := fun i => by
    by_cases e : i = L.dst
    · subst e; rw [updS_same]; exact learnAll_own hne
    · rw [updS_other _ _ e]
  refine ⟨fun i hi => ?_, fun i hi x hx => ?_, fun i hi j hj hji => ?_⟩
  · by_cases e : i = L.dst
    · subst e
      rw [updS_same]
      refine ⟨learnAll_ok hd.log hne, fun x hx => ?_, fun p hp => hd.to p (List.mem_filter.1 hp).1, fun j => Nat.le_trans (cntI_keep_le _ _ _ _) (hd.room j), fun j hj => ?_⟩
      · rcases learnAll_mem hx with h | h
        · exact hd.org x h
        · rw [(hL.es x h).2]; exact hL.src
      · unfold takeS at hj
        dsimp only at hj
        split at hj
        · exact hd.owe j hj
        · dsimp only at hj
          split at hj
          · rename_i e; subst e; exact ⟨hL.src, Ne.symm hL.ne⟩
          · exact hd.owe j hj
    · rw [updS_other _ _ e]; exact hS.one i hi
  · have : x ∈ (S x.org).log := by
      by_cases e : i = L.dst
      · subst e
        rw [updS_same] at hx
        rcases learnAll_mem hx with h | h
        · exact hS.src _ hi x h
        · have := hL.es x h
          rw [this.2]; exact this.1
      · rw [updS_other _ _ e] at hx; exact hS.src i hi x hx
    obtain ⟨l, hl⟩ := hgrow x.org
    rw [hl]; exact List.mem_append_left _ this
  · obtain ⟨a, ha, hp⟩ := hS.wait i hi j hj hji
    rw [hown i]
    obtain ⟨lj, hlj⟩ := hgrow j
    have haj : a ≤ cntL (updS S L.dst (takeS (S L.dst) L) j).log i := by rw [hlj, cntL_append]; omega
    by_cases e : i = L.dst
    · subst e
      rw [updS_same]
      show ∃ a, _ ∧ (waitL (keepL L.src L.h (S L.dst).its) j).Perm _
      rw [waitL_keep]
      by_cases ej : j = L.src
      · subst ej
        rw [if_pos rfl]
        refine ⟨max a L.h, ?_, ?_⟩
        · have := hL.h
          rw [updS_other _ _ (Ne.symm hL.ne)]
          omega
        · rw [← own_drop_filter hd.log]
          exact hp.filter _
      · rw [if_neg ej]
        exact ⟨a, haj, hp⟩
    · rw [updS_other _ _ e]
      exact ⟨a, haj, hp⟩

/-- A command is done. -/
theorem NetOk.do {n i : Nat} {S : Nat → Sr} (hS : NetOk n S) (hi : i < n) {x : En} (hx : x.org = i) (hs : x.seq = cntL (S i).log i + 1) (ha : x.ah = reachOf (S i).log) {its' : List It}
    (ho : ∀ j, cntI (S i).its j < 8) (ht : ∀ p ∈ its', p.to < n ∧ p.to ≠ i ∧ p.due ≤ (S i).now + 1) (hw : ∀ j, j < n → j ≠ i → (waitL its' j).Perm (waitL (S i).its j ++ [x])) : NetOk n (updS S i ⟨(S i).log ++ [x], (S i).now, its', (S i).owed⟩) := by
  have hi' := hS.one i hi
  have hgrow : ∀ k, ∃ l, (updS S i ⟨(S i).log ++ [x], (S i).now, its', (S i).owed⟩ k).log = (S k).log ++ l := fun k => by
    by_cases e : k = i
    · subst e; rw [updS_same]; exact ⟨_, rfl⟩
    · rw [updS_other _ _ e]; exact ⟨[], by simp⟩
  have hnil : ∀ j, ¬ (j < n ∧ j ≠ i) → cntI its' j = 0 := fun j hj => by
    unfold cntI
    rw [List.countP_eq_zero]
    intro p hp e
    have := ht p hp
    simp at e
    subst e
    exact hj ⟨this.1, this.2.1⟩
  refine ⟨fun k hk => ?_, fun k hk y hy => ?_, fun k hk j hj hjk => ?_⟩
  · by_cases e : k = i
    · subst e
      rw [updS_same]
      refine ⟨hi'.log.snoc ⟨by rw [hx]; exact hs, fun o => by rw [ha, reachOf_get]; exact Nat.le_refl _, fun _ => ha⟩, fun y hy => ?_, ht, fun j => ?_, hi'.owe⟩
      · rcases List.mem_append.1 hy with h | h
        · exact hi'.org y h
        · simp at h; subst h; rw [hx]; exact hk
      · by_cases hj : j < n ∧ j ≠ k
        · have := (hw j hj.1 hj.2).length_eq
          rw [List.length_append, waitL_length, waitL_length] at this
          have := ho j
          simp at *
          omega
        · show cntI its' j ≤ 8
          rw [hnil j hj]; omega
    · rw [updS_other _ _ e]; exact hS.one k hk
  · by_cases e : k = i
    · subst e
      rw [updS_same] at hy
      rcases List.mem_append.1 hy with h | h
      · obtain ⟨l, hl⟩ := hgrow y.org
        rw [hl]; exact List.mem_append_left _ (hS.src k hk y h)
      · simp at h; subst h; rw [hx, updS_same]; simp
    · rw [updS_other _ _ e] at hy
      obtain ⟨l, hl⟩ := hgrow y.org
      rw [hl]; exact List.mem_append_left _ (hS.src k hk y hy)
  · obtain ⟨a, h1, h2⟩ := hS.wait k hk j hj hjk
    obtain ⟨l, hl⟩ := hgrow j
    refine ⟨a, by rw [hl, cntL_append]; omega, ?_⟩
    by_cases e : k = i
    · subst e
      rw [updS_same]
      show (waitL its' j).Perm ((ownL k ((S k).log ++ [x])).drop a)
      rw [ownL_snoc, if_pos hx]
      have hl2 := h2.length_eq
      refine (hw j hj hjk).trans ?_
      by_cases hle : a ≤ (ownL k (S k).log).length
      · rw [List.drop_append_of_le_length hle]
        exact h2.append_right _
      · exfalso
        rw [ownL_length] at hle
        obtain ⟨c, hc⟩ : ∃ c, c ∈ (S j).log ∧ c.org = k ∧ c.seq = cntL (S k).log k + 1 := by
          obtain ⟨c, h3, h4, h5⟩ := (hS.one j hj).log.the (o := k) (s := cntL (S k).log k + 1) (by omega) (by omega)
          exact ⟨c, h3, h4, h5⟩
        have := hS.src j hj c hc.1
        rw [hc.2.1] at this
        have := (hi'.log.place this).2.1
        rw [hc.2.1] at this
        omega
    · rw [updS_other _ _ e]; exact h2

end Go.Proofs.YtckmppkdpnhodaaGreatDoor

namespace Go.Proofs.YtckmppkdpnhodaaGreatDoor
set_option linter.unusedVariables false
set_option linter.unusedSimpArgs false
open Go.RowKit Go.Proofs Go.Shelf

attribute [local go_sem ↓] Go.wp_at_zero Go.wp_at_succ

/-- What the command takes out is in the cart. -/
def goesB (S : CartS) (c : Cm) : Bool :=
  match c.k with
  | .listen => (S.it c.word.data.toList).isSome
  | .finWait => S.cp c.word.data.toList
  | _ => true

end Go.Proofs.YtckmppkdpnhodaaGreatDoor

namespace Go.Proofs.YtckmppkdpnhodaaGreatDoor
set_option linter.unusedVariables false
set_option linter.unusedSimpArgs false
open Go.RowKit Go.Proofs

theorem snoc_ind {α : Type} {P : List α → Prop} (h0 : P []) (h1 : ∀ l a, P l → P (l ++ [a])) : ∀ l, P l := fun l => by
  have : ∀ n (l : List α), l.length = n → P l := by
    intro n
    induction n with
    | zero => intro l hl; rw [List.length_eq_zero_iff.1 hl]; exact h0
    | succ n ih =>
      intro l hl
      have hne : l ≠ [] := fun e => by rw [e] at hl; simp at hl
      rw [← List.dropLast_concat_getLast hne]
      exact h1 _ _ (ih _ (by simp [hl]))
  exact this _ l rfl

theorem bytes_ext {a b : ByteArray} (h : a.data.toList = b.data.toList) : a = b := by
  cases a; cases b; simp only [ByteArray.mk.injEq]; exact Array.toList_inj.1 h

section
variable (me : Nat) {log : List Cm} {h8 : log.length ≤ 8} {hok : ∀ c ∈ log, CmOk c}

end
end Go.Proofs.YtckmppkdpnhodaaGreatDoor

namespace Go.Proofs.YtckmppkdpnhodaaGreatDoor
set_option linter.unusedVariables false
set_option linter.unusedSimpArgs false
open Go.RowKit Go.Proofs

def wordLine (kind : List UInt8) (s : List UInt8) : List UInt8 := kind ++ s ++ [10]
def itemLineC (S : CartS) (s : List UInt8) : List UInt8 := itemW ++ s ++ [32] ++ (decN ((S.it s).getD 0)).data.toList ++ [10]

/-- The text of a cart. -/
def TextIs (S : CartS) (s : ByteArray) : Prop :=
  ∃ xi xc xn : List (List UInt8), (xi.Pairwise (· < ·) ∧ ∀ x, x ∈ xi ↔ (S.it x).isSome = true) ∧ (xc.Pairwise (· < ·) ∧ ∀ x, x ∈ xc ↔ S.cp x = true) ∧ (xn.Pairwise (· < ·) ∧ ∀ x, x ∈ xn ↔ S.no x = true) ∧
    s.data.toList = xi.flatMap (itemLineC S) ++ xc.flatMap (wordLine couponW) ++ xn.flatMap (wordLine noteW)

section
variable {me : Nat} {log : List Cm} {h8 : log.length ≤ 8} {hok : ∀ c ∈ log, CmOk c}

end
end Go.Proofs.YtckmppkdpnhodaaGreatDoor

namespace Go.Proofs.YtckmppkdpnhodaaGreatDoor
set_option linter.unusedVariables false
set_option linter.unusedSimpArgs false
open Go.RowKit Go.Proofs

theorem Tryz.bSize : (Tryz.prog.info? 185).map (·.size) = some 2 := by kernel_rfl
theorem Tryz.bLies : liesAt Tryz.prog Tryz.prog.depth 185 (2 / Tryz.prog.cellsOf 185) 0 185 1 = true := by kernel_rfl
theorem Tryz.byteInfo : (Tryz.prog.info? 5).map (fun i => (i.zero, i.size, i.bytes)) = some (some (.int .u8 0), 1, 1) := by kernel_rfl

set_option maxHeartbeats 1000000 in
set_option maxRecDepth 100000 in
theorem copyCheck_used (b : Nat) (w : World) (h0 : w.cell? ⟨b, 0, none⟩ = some (.pointer (some ⟨b, 0, none⟩))) :
    Calls Tryz.prog 135 #[.pointer (some ⟨b, 0, none⟩)] w fun e w' => e = .returned (.tuple #[]) ∧ w' = w := by
  obtain ⟨j, hj, _⟩ := Option.map_eq_some_iff.1 Tryz.bSize
  go_enter Tryz.func135, Tryz.ntmps135
  go_wp2
  rw [Lib.run_neq_ptr_same w _ Tryz.underlying183 hj]
  go_wp2
  go_end0
  exact ⟨rfl, rfl⟩

set_option maxHeartbeats 1000000 in
set_option maxRecDepth 100000 in
theorem copyCheck_fresh (b : Nat) (w : World) (h0 : w.cell? ⟨b, 0, none⟩ = some (.pointer none)) (hsh : w.shape? b = some (185, 2)) (hfz : w.frozen? ⟨b, 0, none⟩ = false) :
    Calls Tryz.prog 135 #[.pointer (some ⟨b, 0, none⟩)] w fun e w' => e = .returned (.tuple #[]) ∧ w' = w.setCell ⟨b, 0, none⟩ (.pointer (some ⟨b, 0, none⟩)) := by
  obtain ⟨j, hj, hjs⟩ := Option.map_eq_some_iff.1 Tryz.bSize
  go_enter Tryz.func135, Tryz.ntmps135
  go_wp2
  rw [Lib.run_to_unsafe w ⟨b, 0, none⟩ Tryz.underlying183 Tryz.underlying218 hj (by rw [hjs]; decide) hsh (Nat.zero_lt_succ 1)]
  simp only [Result.andThen]
  rw [Oper.upon_value]
  go_wp2
  rw [run_callFunc_extern Tryz.func162 (by kernel_rfl) (by kernel_rfl) (by kernel_rfl) (e := Extern.AbiNoEscape.same) (by kernel_rfl)]
  rw [Lib.run_noEscape]
  simp only [Result.andThen]
  rw [Oper.upon_value]
  go_wp2
  rw [Lib.run_from_unsafe w ⟨b, 0, none⟩ Tryz.underlying218 Tryz.underlying183 hj hsh Tryz.bLies]
  simp only [Result.andThen]
  rw [Oper.upon_value]
  go_wp2
  go_end0
  exact ⟨rfl, rfl⟩

theorem copyCheck_k (B b : Nat) (bs : List Value) (w : World) (h : Lib.IsBuilderF 185 5 B b bs w) :
    Calls Tryz.prog 135 #[.pointer (some ⟨b, 0, none⟩)] w fun e w' => e = .returned (.tuple #[]) ∧ (Lib.BuilderAtF 185 5 B b (.pointer (some ⟨b, 0, none⟩)) bs w' ∧ Below B w w' ∧ Lib.OthersKept 5 (some b) w w') := by
  rcases h with h | h
  · refine (copyCheck_fresh b w h.cell0 h.shape h.frozen0).mono ?_
    rintro e w' ⟨rfl, rfl⟩
    exact ⟨rfl, h.used _, (Below.refl B w).setCell (p := ⟨b, 0, none⟩) h.1 _, (Lib.OthersKept.refl _ _ w).setCell ⟨b, 0, none⟩ rfl _⟩
  · refine (copyCheck_used b w h.cell0).mono ?_
    rintro e w' ⟨rfl, rfl⟩
    exact ⟨rfl, h, Below.refl B _, Lib.OthersKept.refl _ _ _⟩

set_option maxHeartbeats 2000000 in
set_option maxRecDepth 100000 in
theorem writeString_k (B b : Nat) (bs : List Value) (s : ByteArray) (w : World) (h : Lib.IsBuilderF 185 5 B b bs w) (hlen : bs.length + s.size ≤ 140737488355328) (hBw : B ≤ w.heap.size) :
    Calls Tryz.prog 96 #[.pointer (some ⟨b, 0, none⟩), .string s] w fun e w' => e = .returned (.tuple #[.int .i64 s.size, .nilIface]) ∧ (Lib.BuilderAtF 185 5 B b (.pointer (some ⟨b, 0, none⟩)) (bs ++ Lib.strCells s) w' ∧ Below B w w' ∧ Lib.OthersKept 5 (some b) w w') := by
  obtain ⟨i0, hi, hz0, hz1, hz2⟩ := info_parts Tryz.byteInfo
  go_enter Tryz.func96, Tryz.ntmps96
  go_wp2_with (go_at_call 135; refine (copyCheck_k B b bs _ h).mono ?_)
  rintro e w1 ⟨rfl, h1, hb1, hk1⟩
  obtain ⟨hB, v, hbk, hown, hne⟩ := h1
  have c0 : w1.cell? ⟨b, 0, none⟩ = some (.pointer (some ⟨b, 0, none⟩)) := by rw [Lib.cell_of_heap hbk]; rfl
  have c1 : w1.cell? ⟨b, 1, none⟩ = some v := by rw [Lib.cell_of_heap hbk]; rfl
  go_wp2_with (at_builtin; refine Lib.wpList_append_own_stringF _ rfl _ _ 55 9 rfl B 5 i0 Tryz.underlying55 Tryz.underlying9 hi hz0 hz1 hz2 _ _ _ rfl hown s rfl ?c3 ?c4 ?c5 ?_)
  case c3 => unfold maxLen; omega
  case c4 => omega
  case c5 => have := hb1.size; omega
  intro v' w2 hown' hgrow _
  have hlt : b < w1.heap.size := by
    rcases Nat.lt_or_ge b w1.heap.size with h' | h'
    · exact h'
    · simp [Array.getElem?_eq_none h'] at hbk
  have hb2 : w2.heap[b]? = some (.cells #[.pointer (some ⟨b, 0, none⟩), v] 185 (0, 0)) := by
    rw [hgrow.block b hlt (fun e => hne e.symm)]
    exact hbk
  have d0 : w2.cell? ⟨b, 0, none⟩ = some (.pointer (some ⟨b, 0, none⟩)) := by rw [Lib.cell_of_heap hb2]; rfl
  have d1 : w2.cell? ⟨b, 1, none⟩ = some v := by rw [Lib.cell_of_heap hb2]; rfl
  have f1 : w2.frozen? ⟨b, 1, none⟩ = false := Lib.frozen_of_heap hb2 1
  obtain ⟨ao, n', cap, rfl⟩ : ∃ ao n' cap, v' = .slice ao n' cap := by
    rcases hown'.2 with ⟨hv, _⟩ | ⟨g, cap, cur, fz, hv, _⟩
    · exact ⟨_, _, _, hv⟩
    · exact ⟨_, _, _, hv⟩
  go_wp2
  go_ret2
  refine ⟨rfl, ?_, ?_, (hk1.grown hgrow (Lib.ownsRowF_kind hown)).setCell ⟨b, 1, none⟩ rfl _⟩
  · exact Lib.BuilderAtF.put (T := 185) (e := 5) hB hb2 (bs' := bs ++ Lib.strCells s) (by simpa [Lib.strCells_length] using hown') (by decide)
  · exact (hb1.grown hgrow (by have := hb1.size; omega) (fun k hk => (hown.lt k hk).1)).setCell (p := ⟨b, 1, none⟩) hB _

end Go.Proofs.YtckmppkdpnhodaaGreatDoor
