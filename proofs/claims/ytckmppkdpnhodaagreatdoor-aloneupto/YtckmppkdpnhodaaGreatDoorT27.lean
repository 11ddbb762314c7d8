/-
  Contract of (*Replica).hasWhatGoes. The cart of a log against the document's: goesB is the opposite of lacks; numbers, coupons, notes. The text of a log's cart is the document's view of it.
-/
import Derived.Test.YtckmppkdpnhodaaGreatDoorT26
namespace Go.Proofs.YtckmppkdpnhodaaGreatDoor
set_option linter.unusedVariables false
set_option linter.unusedSimpArgs false
open Go.RowKit Go.Proofs Go.Shelf

attribute [local go_sem ↓] Go.wp_at_zero Go.wp_at_succ

/-- The cart of a log. -/
def logCart (log : List Cm) (h8 : log.length ≤ 8) (hok : ∀ c ∈ log, CmOk c) : CartS := cartOf (entsOf log h8 hok) (entsOf log h8 hok)

/-- What the command takes out is in the cart. -/
def goesB (S : CartS) (c : Cm) : Bool :=
  match c.k with
  | .listen => (S.it c.word.data.toList).isSome
  | .finWait => S.cp c.word.data.toList
  | _ => true

/-- The cart of the log, worked out. -/
theorem ofAll (rb me : Nat) (hme : me < 5) (log : List Cm) (h8 : log.length ≤ 8) (hok : ∀ c ∈ log, CmOk c) (ev : Value) (a : Option Addr) (cap : Nat) (hev : ev = .slice a log.length cap) (w : World) (h4 : w.cell? ⟨rb, 4, none⟩ = some ev) (hrow : w.ownsRow 0 122 10 ev log.length (logCells me log)) :
    Calls Tryz.prog 52 #[.pointer (some ⟨rb, 4, none⟩)] w fun e w' => e = .returned (.func (.func 131) #[] #[.pointer (some ⟨w.heap.size, 0, none⟩)]) ∧ Below w.heap.size w w' ∧
      ∀ u, Below w'.heap.size w' u → Calls Tryz.prog 51 #[.func (.func 131) #[] #[.pointer (some ⟨w.heap.size, 0, none⟩)]] u fun e W' =>
        ∃ c, e = .returned (.agg #[.map (some c), .map (some (c + 1)), .map (some (c + 1 + 1))]) ∧ u.heap.size ≤ c ∧ c + 1 + 1 < W'.heap.size ∧ CartAt W' c (c + 1) (c + 1 + 1) 8 (logCart log h8 hok) ∧ Below u.heap.size u W' := by
  subst hev
  refine (all_any rb a log.length cap w h4).mono ?_
  rintro e w' ⟨rfl, rfl⟩
  refine ⟨rfl, (Below.refl _ w).alloc (Nat.le_refl _) _, fun u hu => ?_⟩
  have hb : Below w.heap.size w u := ((Below.refl _ w).alloc (Nat.le_refl _) _).trans (hu.mono (by simp))
  refine callsIn_wide.1 (of_any w.heap.size me hme (.slice a log.length cap) log h8 hok u ?_ (fun b hb' => Nat.lt_of_lt_of_le (hrow.lt b hb').2 hb.size) ((Upd.of_below (S := []) hb).owns hrow (by simp)))
  refine cell_below hu ?_
  rw [cell_of_heap (heap_alloc_new w _)]
  rfl

set_option maxRecDepth 100000 in
set_option maxHeartbeats 4000000 in
theorem goes_any (rb me : Nat) (hme : me < 5) (log : List Cm) (h8 : log.length ≤ 8) (hok : ∀ c ∈ log, CmOk c) (ev : Value) (w : World) (h4 : w.cell? ⟨rb, 4, none⟩ = some ev) (hrow : w.ownsRow 0 122 10 ev log.length (logCells me log)) (c : Cm) (hc : CmOk c) :
    Calls Tryz.prog 47 #[.pointer (some ⟨rb, 0, none⟩), .agg #[.int .i64 (c.k.num : Int), .string c.word, .int .i64 (c.count : Int)]] w fun e w' => e = .returned (.bool (goesB (logCart log h8 hok) c)) ∧ Below w.heap.size w w' := by
  obtain ⟨a, cap, hev⟩ : ∃ p c, ev = .slice p log.length c := by
    rcases hrow.2 with ⟨h1, h0⟩ | ⟨g, cap', _, h1, _⟩
    · rw [h0]; exact ⟨_, _, h1⟩
    · exact ⟨_, _, h1⟩
  have hw8 : c.word.size ≤ maxLen := by
    have := hc.word
    simp only [wordB, Bool.and_eq_true, decide_eq_true_eq] at this; unfold maxLen; omega
  have B1 : ∀ o, Below w.heap.size w (w.alloc o) := fun o => (Below.refl _ w).alloc (Nat.le_refl _) _
  have HB1 : Hid (∀ o, Below w.heap.size w (w.alloc o)) := B1
  have HA : Hid (∀ o, Calls Tryz.prog 52 #[.pointer (some ⟨rb, 4, none⟩)] (w.alloc o).drew fun e w' => e = .returned (.func (.func 131) #[] #[.pointer (some ⟨(w.alloc o).drew.heap.size, 0, none⟩)]) ∧ Below (w.alloc o).drew.heap.size (w.alloc o).drew w' ∧
      ∀ u, Below w'.heap.size w' u → Calls Tryz.prog 51 #[.func (.func 131) #[] #[.pointer (some ⟨(w.alloc o).drew.heap.size, 0, none⟩)]] u fun e W' =>
        ∃ c, e = .returned (.agg #[.map (some c), .map (some (c + 1)), .map (some (c + 1 + 1))]) ∧ u.heap.size ≤ c ∧ c + 1 + 1 < W'.heap.size ∧ CartAt W' c (c + 1) (c + 1 + 1) 8 (logCart log h8 hok) ∧ Below u.heap.size u W') := fun o =>
    ofAll rb me hme log h8 hok ev a cap hev _ (cell_below ((B1 o).drew) h4) ((Upd.of_below (S := []) ((B1 o).drew)).owns hrow (by simp))
  have hrl : rb < w.heap.size := World.block_lt_of_cell? w _ h4
  clear h4 hrow hev B1
  generalize logCart log h8 hok = S at *
  cases hk : c.k with
  | closed =>
    simp only [goesB, hk, Kd.num]
    go_enter Tryz.func47, Tryz.ntmps47
    go_wp2
    go_ret
    exact ⟨rfl, HB1.out _⟩
  | established =>
    simp only [goesB, hk, Kd.num]
    go_enter Tryz.func47, Tryz.ntmps47
    go_wp2
    go_ret
    exact ⟨rfl, HB1.out _⟩
  | closeWait =>
    simp only [goesB, hk, Kd.num]
    go_enter Tryz.func47, Tryz.ntmps47
    go_wp2
    go_ret
    exact ⟨rfl, HB1.out _⟩
  | listen =>
    have HH : Hid (∀ c1 W', CartAt W' c1 (c1 + 1) (c1 + 1 + 1) 8 S → Calls Tryz.prog 85 #[.agg #[.map (some c1), .map (some (c1 + 1)), .map (some (c1 + 1 + 1))], .string c.word] W' fun e w' => e = .returned (.bool (S.it c.word.data.toList).isSome) ∧ Below W'.heap.size W' w') := fun c1 W' h => hasItem_any _ _ _ _ S c.word hw8 W' h
    simp only [goesB, hk, Kd.num]
    generalize (S.it c.word.data.toList).isSome = res at *
    go_enter Tryz.func47, Tryz.ntmps47
    go_upto_region 3 with fail
    obtain ⟨wa, hwa⟩ : ∃ wa, w.alloc (.cells #[.int .i64 1, .string c.word, .int .i64 (c.count : Int)] 116) = wa := ⟨_, rfl⟩
    have HAa := HA.out (.cells #[.int .i64 1, .string c.word, .int .i64 (c.count : Int)] 116)
    have HBa := HB1.out (.cells #[.int .i64 1, .string c.word, .int .i64 (c.count : Int)] 116)
    have a1 : (w.alloc (.cells #[.int .i64 1, .string c.word, .int .i64 (c.count : Int)] 116)).cell? ⟨w.heap.size, 1, none⟩ = some (.string c.word) := by rw [cell_of_heap (heap_alloc_new w _)]; rfl
    rw [hwa] at HAa HBa a1 ⊢
    have HAA := HAa
    have HBA : Hid (Below w.heap.size w wa) := HBa
    clear HA HB1 HAa HBa hwa hc
    generalize hb0 : w.heap.size = b0 at *
    go_region_held3 (fun w' => w'.cell? ⟨b0, 1, none⟩ = some (.string c.word))
      (first
        | exact a1
        | exact cell_below t2 a1
        | exact cell_below t5 a1
        | exact cell_below t7 a1
        | go_keep)
      (first
        | (go_at_call 52; refine Calls.mono HAA ?_; rintro e w2 ⟨rfl, u2, v2⟩; have t2 : Below wa.heap.size wa w2 := ((Below.refl _ wa).drew).trans u2)
        | (go_at_call 51; refine (v2 _ (Below.refl _ _)).mono ?_; rintro e w5 ⟨c1, rfl, m1, m2, m3, u5⟩; have t5 : Below wa.heap.size wa w5 := t2.trans (u5.mono t2.size))
        | (go_at_call 85; refine (HH.out c1 _ m3).mono ?_; rintro e w7 ⟨rfl, u7⟩; have t7 : Below wa.heap.size wa w7 := t5.trans (u7.mono t5.size)))
    go_wp2
    go_ret
    exact ⟨rfl, by have hs := HBA.out.size; rw [hb0] at hs ⊢; exact HBA.out.trans (t7.mono hs)⟩
  | finWait =>
    have HH : Hid (∀ c1 W', CartAt W' c1 (c1 + 1) (c1 + 1 + 1) 8 S → Calls Tryz.prog 86 #[.agg #[.map (some c1), .map (some (c1 + 1)), .map (some (c1 + 1 + 1))], .string c.word] W' fun e w' => e = .returned (.bool (S.cp c.word.data.toList)) ∧ Below W'.heap.size W' w') := fun c1 W' h => hasCoupon_any _ _ _ _ S c.word hw8 W' h
    simp only [goesB, hk, Kd.num]
    generalize (S.cp c.word.data.toList) = res at *
    go_enter Tryz.func47, Tryz.ntmps47
    go_upto_region 5 with fail
    obtain ⟨wa, hwa⟩ : ∃ wa, w.alloc (.cells #[.int .i64 3, .string c.word, .int .i64 (c.count : Int)] 116) = wa := ⟨_, rfl⟩
    have HAa := HA.out (.cells #[.int .i64 3, .string c.word, .int .i64 (c.count : Int)] 116)
    have HBa := HB1.out (.cells #[.int .i64 3, .string c.word, .int .i64 (c.count : Int)] 116)
    have a1 : (w.alloc (.cells #[.int .i64 3, .string c.word, .int .i64 (c.count : Int)] 116)).cell? ⟨w.heap.size, 1, none⟩ = some (.string c.word) := by rw [cell_of_heap (heap_alloc_new w _)]; rfl
    rw [hwa] at HAa HBa a1 ⊢
    have HAA := HAa
    have HBA : Hid (Below w.heap.size w wa) := HBa
    clear HA HB1 HAa HBa hwa hc
    generalize hb0 : w.heap.size = b0 at *
    go_region_held3 (fun w' => w'.cell? ⟨b0, 1, none⟩ = some (.string c.word))
      (first
        | exact a1
        | exact cell_below t2 a1
        | exact cell_below t5 a1
        | exact cell_below t7 a1
        | go_keep)
      (first
        | (go_at_call 52; refine Calls.mono HAA ?_; rintro e w2 ⟨rfl, u2, v2⟩; have t2 : Below wa.heap.size wa w2 := ((Below.refl _ wa).drew).trans u2)
        | (go_at_call 51; refine (v2 _ (Below.refl _ _)).mono ?_; rintro e w5 ⟨c1, rfl, m1, m2, m3, u5⟩; have t5 : Below wa.heap.size wa w5 := t2.trans (u5.mono t2.size))
        | (go_at_call 86; refine (HH.out c1 _ m3).mono ?_; rintro e w7 ⟨rfl, u7⟩; have t7 : Below wa.heap.size wa w7 := t5.trans (u7.mono t5.size)))
    go_wp2
    go_ret
    exact ⟨rfl, by have hs := HBA.out.size; rw [hb0] at hs ⊢; exact HBA.out.trans (t7.mono hs)⟩

end Go.Proofs.YtckmppkdpnhodaaGreatDoor

namespace Go.Proofs.YtckmppkdpnhodaaGreatDoor
set_option linter.unusedVariables false
set_option linter.unusedSimpArgs false
open Go.RowKit Go.Proofs

theorem snoc_ind {α : Type} {P : List α → Prop} (h0 : P []) (h1 : ∀ l a, P l → P (l ++ [a])) : ∀ l, P l := fun l => by
  have : ∀ n (l : List α), l.length = n → P l := by
    intro n
    induction n with
    | zero => intro l hl; rw [List.length_eq_zero_iff.1 hl]; exact h0
    | succ n ih =>
      intro l hl
      have hne : l ≠ [] := fun e => by rw [e] at hl; simp at hl
      rw [← List.dropLast_concat_getLast hne]
      exact h1 _ _ (ih _ (by simp [hl]))
  exact this _ l rfl

theorem endMax_ge (k : Kd) (s : List UInt8) (m : Nat) : ∀ pre : List EnT, m + 1 ≤ (endMax k pre s).getD 0 ↔ ∃ x ∈ pre, x.c.k = k ∧ x.c.word.data.toList = s ∧ m + 1 ≤ x.i := by
  refine snoc_ind (by simp [endMax]) fun l a ih => ?_
  rw [endMax_snoc]
  simp only [List.mem_append, List.mem_singleton, or_and_right, exists_or, exists_eq_left]
  split
  · rename_i h
    simp only [Option.getD_some, ← ih]
    constructor
    · intro hm
      by_cases e : m + 1 ≤ (endMax k l s).getD 0
      · exact .inl e
      · exact .inr ⟨h.1, h.2, by omega⟩
    · rintro (e | e) <;> omega
  · rename_i h
    rw [ih]
    constructor
    · exact .inl
    · rintro (e | e)
      · exact e
      · exact absurd ⟨e.1, e.2.1⟩ h

theorem noteMax_ge (m : Nat) : ∀ pre : List EnT, m + 1 ≤ noteMax pre ↔ ∃ x ∈ pre, x.c.k = .closeWait ∧ m + 1 ≤ x.i := by
  refine snoc_ind (by simp [noteMax]) fun l a ih => ?_
  rw [noteMax_snoc]
  simp only [List.mem_append, List.mem_singleton, or_and_right, exists_or, exists_eq_left]
  split
  · rename_i h
    rw [← ih]
    constructor
    · intro hm
      by_cases e : m + 1 ≤ noteMax l
      · exact .inl e
      · exact .inr ⟨h, by omega⟩
    · rintro (e | e) <;> omega
  · rename_i h
    rw [ih]
    constructor
    · exact .inl
    · rintro (e | e)
      · exact e
      · exact absurd e.1 h

/-- Does the entry stay? -/
def stE (E : List EnT) (x : EnT) : Bool := decide (¬ x.i + 1 ≤ goneM E x)

def cntE (E : List EnT) (s : List UInt8) (x : EnT) : Nat := if x.c.k = .closed ∧ x.c.word.data.toList = s ∧ stE E x = true then x.c.count else 0
def isE (E : List EnT) (k : Kd) (s : List UInt8) (x : EnT) : Bool := decide (x.c.k = k) && decide (x.c.word.data.toList = s) && stE E x

theorem cart_it (E : List EnT) (s : List UInt8) : ∀ pre : List EnT, (cartOf E pre).it s = if (pre.map (cntE E s)).sum = 0 then none else some (min 999 (pre.map (cntE E s)).sum) := by
  refine snoc_ind (by simp [cartOf, CartS.empty]) fun l a ih => ?_
  rw [cartOf_snoc, List.map_append, List.sum_append]
  simp only [List.map_cons, List.map_nil, List.sum_cons, List.sum_nil, Nat.add_zero]
  by_cases hg : a.i + 1 ≤ goneM E a
  · rw [if_pos hg, ih]
    have : cntE E s a = 0 := if_neg (fun h => by have := h.2.2; simp [stE, hg] at this)
    rw [this, Nat.add_zero]
  · rw [if_neg hg]
    have hst : stE E a = true := by simp only [stE, hg, not_false_eq_true, decide_true]
    by_cases hk : a.c.k = .closed
    · by_cases hs : s = a.c.word.data.toList
      · have hc : cntE E s a = a.c.count := if_pos ⟨hk, hs.symm, hst⟩
        have h1 := (a.hc.add hk).1
        simp only [putC, hk]
        rw [if_pos hs, hc, if_neg (by omega), ← hs, ih]
        split
        · rename_i h0; rw [h0]; simp; omega
        · simp only [Option.getD_some]; congr 1; omega
      · have hc : cntE E s a = 0 := if_neg (fun h => hs h.2.1.symm)
        simp only [putC, hk]
        rw [if_neg hs, hc, Nat.add_zero, ih]
    · have hc : cntE E s a = 0 := if_neg (fun h => hk h.1)
      rw [hc, Nat.add_zero, ← ih]
      unfold putC
      split <;> first | rfl | (exfalso; exact hk ‹_›)

theorem cart_cp (E : List EnT) (s : List UInt8) : ∀ pre : List EnT, (cartOf E pre).cp s = pre.any (isE E .established s) := by
  refine snoc_ind (by simp [cartOf, CartS.empty]) fun l a ih => ?_
  rw [cartOf_snoc, List.any_append]
  simp only [List.any_cons, List.any_nil, Bool.or_false]
  by_cases hg : a.i + 1 ≤ goneM E a
  · rw [if_pos hg, ih]
    simp [isE, stE, hg]
  · rw [if_neg hg]
    have hst : stE E a = true := by simp only [stE, hg, not_false_eq_true, decide_true]
    by_cases hk : a.c.k = .established
    · simp only [putC, hk, isE, hst]
      by_cases hs : s = a.c.word.data.toList
      · rw [if_pos hs]; simp [hs]
      · rw [if_neg hs, ih]; simp [Ne.symm hs]
    · have : isE E .established s a = false := by simp [isE, hk]
      rw [this, Bool.or_false, ← ih]
      unfold putC
      split <;> first | rfl | (exfalso; exact hk ‹_›)

theorem cart_no (E : List EnT) (s : List UInt8) : ∀ pre : List EnT, (cartOf E pre).no s = pre.any (isE E .closeWait s) := by
  refine snoc_ind (by simp [cartOf, CartS.empty]) fun l a ih => ?_
  rw [cartOf_snoc, List.any_append]
  simp only [List.any_cons, List.any_nil, Bool.or_false]
  by_cases hg : a.i + 1 ≤ goneM E a
  · rw [if_pos hg, ih]
    simp [isE, stE, hg]
  · rw [if_neg hg]
    have hst : stE E a = true := by simp only [stE, hg, not_false_eq_true, decide_true]
    by_cases hk : a.c.k = .closeWait
    · simp only [putC, hk, isE, hst]
      by_cases hs : s = a.c.word.data.toList
      · rw [if_pos hs]; simp [hs]
      · rw [if_neg hs, ih]; simp [Ne.symm hs]
    · have : isE E .closeWait s a = false := by simp [isE, hk]
      rw [this, Bool.or_false, ← ih]
      unfold putC
      split <;> first | rfl | (exfalso; exact hk ‹_›)

theorem bytes_ext {a b : ByteArray} (h : a.data.toList = b.data.toList) : a = b := by
  cases a; cases b; simp only [ByteArray.mk.injEq]; exact Array.toList_inj.1 h

section
variable (me : Nat) {log : List Cm} {h8 : log.length ≤ 8} {hok : ∀ c ∈ log, CmOk c}

theorem own_cm {i : Nat} (h : i < log.length) : cmAt (ownTr me log) i = log[i] := cmAt_of (ownTr_get me log i h)
theorem own_bef {i : Nat} (h : i < log.length) : befAt (ownTr me log) i = List.range i := befAt_of (ownTr_get me log i h)

theorem mem_ents {P : EnT → Prop} : (∃ x ∈ entsOf log h8 hok, P x) ↔ ∃ j, ∃ h : j < log.length, P ⟨j, log[j], by omega, hok _ (List.getElem_mem _)⟩ := by
  constructor
  · rintro ⟨x, hx, hp⟩
    obtain ⟨j, hj, rfl⟩ := List.mem_iff_getElem.1 hx
    have hj' : j < log.length := by rwa [entsOf_length] at hj
    rw [entsOf_get hj'] at hp
    exact ⟨j, hj', hp⟩
  · rintro ⟨j, hj, hp⟩
    refine ⟨(entsOf log h8 hok)[j]'(by rw [entsOf_length]; exact hj), List.getElem_mem _, ?_⟩
    rw [entsOf_get hj]; exact hp

theorem st_eq {i : Nat} (h : i < log.length) : stE (entsOf log h8 hok) ⟨i, log[i], by omega, hok _ (List.getElem_mem _)⟩ = staysB (ownTr me log) (List.range log.length) i := by
  rw [Bool.eq_iff_iff]
  simp only [stE, decide_eq_true_eq, staysB, List.all_eq_true, List.mem_range, Bool.not_eq_true', hits]
  constructor
  · intro hn y hy
    rw [Bool.eq_false_iff]
    intro hh
    simp only [Bool.and_eq_true, inB, decide_eq_true_eq, own_cm me h, own_cm me hy, own_bef me hy, List.mem_range, undo, Bool.or_eq_true] at hh
    refine hn ?_
    obtain ⟨hu, hlt⟩ := hh
    rcases hu with ⟨h1, h2⟩ | ⟨h1, ⟨h2, h3⟩ | ⟨h2, h3⟩⟩
    · simp only [goneM, h1]
      exact (noteMax_ge i _).2 (mem_ents.2 ⟨y, hy, h2, by show i + 1 ≤ y; omega⟩)
    · simp only [goneM, h2]
      exact (endMax_ge _ _ i _).2 (mem_ents.2 ⟨y, hy, h3, by rw [h1], by show i + 1 ≤ y; omega⟩)
    · simp only [goneM, h2]
      exact (endMax_ge _ _ i _).2 (mem_ents.2 ⟨y, hy, h3, by rw [h1], by show i + 1 ≤ y; omega⟩)
  · intro hall hg
    have key : ∀ y, ∀ hy : y < log.length, i < y → undo log[i] log[y] = true → False := fun y hy hiy hu => by
      have := hall y hy
      simp [own_cm me h, own_cm me hy, own_bef me hy, inB, hu, hiy] at this
    simp only [goneM] at hg
    split at hg
    · rename_i hk
      obtain ⟨y, hy, h1, h2, h3⟩ := mem_ents.1 ((endMax_ge _ _ i _).1 hg)
      have h1' : log[y].k = _ := h1
      have h2' : log[y].word = log[i].word := bytes_ext h2
      exact key y hy h3 (by simp only [undo]; simp [hk, h1', h2'])
    · rename_i hk
      obtain ⟨y, hy, h1, h2, h3⟩ := mem_ents.1 ((endMax_ge _ _ i _).1 hg)
      have h1' : log[y].k = _ := h1
      have h2' : log[y].word = log[i].word := bytes_ext h2
      exact key y hy h3 (by simp only [undo]; simp [hk, h1', h2'])
    · rename_i hk
      obtain ⟨y, hy, h1, h2⟩ := mem_ents.1 ((noteMax_ge i _).1 hg)
      have h1' : log[y].k = _ := h1
      exact key y hy h2 (by simp only [undo]; simp [hk, h1'])
    · omega

theorem ents_map {β : Type} (f : EnT → β) (g : Nat → β) (hfg : ∀ i, ∀ h : i < log.length, f ⟨i, log[i], by omega, hok _ (List.getElem_mem _)⟩ = g i) : (entsOf log h8 hok).map f = (List.range log.length).map g := by
  refine List.ext_getElem (by simp [entsOf_length]) fun i h1 h2 => ?_
  have hi : i < log.length := by simpa using h2
  rw [List.getElem_map, List.getElem_map, entsOf_get hi, List.getElem_range]
  exact hfg i hi

theorem ents_any (f : EnT → Bool) (g : Nat → Bool) (hfg : ∀ i, ∀ h : i < log.length, f ⟨i, log[i], by omega, hok _ (List.getElem_mem _)⟩ = g i) : (entsOf log h8 hok).any f = (List.range log.length).any g := by
  have := congrArg (fun l => l.any id) (ents_map (h8 := h8) (hok := hok) f g hfg)
  simpa [List.any_map] using this

theorem logCart_it (x : ByteArray) : (logCart log h8 hok).it x.data.toList = if numberN (ownTr me log) (List.range log.length) x = 0 then none else some (numberN (ownTr me log) (List.range log.length) x) := by
  have e : ((entsOf log h8 hok).map (cntE (entsOf log h8 hok) x.data.toList)).sum = sumOf (ownTr me log) (List.range log.length) x (List.range log.length) := by
    unfold sumOf
    rw [ents_map (h8 := h8) (hok := hok) _ (adds (ownTr me log) (List.range log.length) x) fun i h => ?_]
    simp only [cntE, adds, own_cm me h, st_eq me h]
    by_cases hx : log[i].word = x
    · simp [hx]
    · have : ¬ log[i].word.data.toList = x.data.toList := fun e => hx (bytes_ext e)
      simp [hx, this]
  unfold logCart
  rw [cart_it, e]
  unfold numberN
  by_cases h0 : sumOf (ownTr me log) (List.range log.length) x (List.range log.length) = 0
  · rw [if_pos h0, if_pos (by omega)]
  · rw [if_neg h0, if_neg (by omega)]

theorem is_eq (k : Kd) (x : ByteArray) : (entsOf log h8 hok).any (isE (entsOf log h8 hok) k x.data.toList) = hasB (ownTr me log) (List.range log.length) k x := by
  unfold hasB
  refine ents_any _ _ fun i h => ?_
  simp only [isE, isThere, own_cm me h, st_eq me h]
  by_cases hx : log[i].word = x
  · simp [hx]
  · have : ¬ log[i].word.data.toList = x.data.toList := fun e => hx (bytes_ext e)
    simp [hx, this]

theorem logCart_cp (x : ByteArray) : (logCart log h8 hok).cp x.data.toList = hasB (ownTr me log) (List.range log.length) .established x := by
  unfold logCart; rw [cart_cp, is_eq me]

theorem logCart_no (x : ByteArray) : (logCart log h8 hok).no x.data.toList = hasB (ownTr me log) (List.range log.length) .closeWait x := by
  unfold logCart; rw [cart_no, is_eq me]

theorem goes_lacks (cm : Cm) : goesB (logCart log h8 hok) cm = !lacks (ownTr me log) (List.range log.length) cm := by
  unfold goesB lacks
  cases hk : cm.k with
  | listen => simp [logCart_it me]; split <;> simp_all
  | finWait => simp [logCart_cp me]
  | _ => simp

end
end Go.Proofs.YtckmppkdpnhodaaGreatDoor

namespace Go.Proofs.YtckmppkdpnhodaaGreatDoor
set_option linter.unusedVariables false
set_option linter.unusedSimpArgs false
open Go.RowKit Go.Proofs

def wordLine (kind : List UInt8) (s : List UInt8) : List UInt8 := kind ++ s ++ [10]
def itemLineC (S : CartS) (s : List UInt8) : List UInt8 := itemW ++ s ++ [32] ++ (decN ((S.it s).getD 0)).data.toList ++ [10]

/-- The text of a cart. -/
def TextIs (S : CartS) (s : ByteArray) : Prop :=
  ∃ xi xc xn : List (List UInt8), (xi.Pairwise (· < ·) ∧ ∀ x, x ∈ xi ↔ (S.it x).isSome = true) ∧ (xc.Pairwise (· < ·) ∧ ∀ x, x ∈ xc ↔ S.cp x = true) ∧ (xn.Pairwise (· < ·) ∧ ∀ x, x ∈ xn ↔ S.no x = true) ∧
    s.data.toList = xi.flatMap (itemLineC S) ++ xc.flatMap (wordLine couponW) ++ xn.flatMap (wordLine noteW)

theorem exists_sorted : ∀ ws : List Wd, ∃ out : List Wd, out.Pairwise (· < ·) ∧ ∀ x, x ∈ out ↔ x ∈ ws
  | [] => ⟨[], .nil, fun _ => Iff.rfl⟩
  | a :: r => by
    obtain ⟨out, h1, h2⟩ := exists_sorted r
    refine ⟨out.filter (fun y => decide (y < a)) ++ (a :: out.filter (fun y => decide (a < y))), ?_, fun x => ?_⟩
    · refine List.pairwise_append.2 ⟨h1.filter _, List.pairwise_cons.2 ⟨fun y hy => ?_, h1.filter _⟩, fun x hx y hy => ?_⟩
      · simpa using (List.mem_filter.1 hy).2
      · have hxa : x < a := by simpa using (List.mem_filter.1 hx).2
        rcases List.mem_cons.1 hy with rfl | hy
        · exact hxa
        · have hay : a < y := by simpa using (List.mem_filter.1 hy).2
          exact wd_trans hxa hay
    · simp only [List.mem_append, List.mem_filter, decide_eq_true_eq, List.mem_cons, h2]
      constructor
      · rintro (h | h | h)
        · exact .inr h.1
        · exact .inl h
        · exact .inr h.1
      · rintro (h | h)
        · exact .inr (.inl h)
        · by_cases hl : x < a
          · exact .inl ⟨h, hl⟩
          · by_cases hg : a < x
            · exact .inr (.inr ⟨h, hg⟩)
            · exact .inr (.inl (wd_tri hl hg))

theorem filter_flatMap {α β : Type} (p : α → Bool) (g : α → List β) : ∀ l : List α, (l.filter p).flatMap g = l.flatMap fun x => if p x = true then g x else []
  | [] => rfl
  | a :: r => by
    by_cases h : p a = true
    · rw [List.filter_cons_of_pos h, List.flatMap_cons, List.flatMap_cons, filter_flatMap p g r, if_pos h]
    · rw [List.filter_cons_of_neg h, List.flatMap_cons, filter_flatMap p g r, if_neg h, List.nil_append]

theorem map_flatMap' {α β γ : Type} (f : α → β) (g : β → List γ) : ∀ l : List α, (l.map f).flatMap g = l.flatMap fun x => g (f x)
  | [] => rfl
  | a :: r => by rw [List.map_cons, List.flatMap_cons, List.flatMap_cons, map_flatMap' f g r]

theorem number_word {tr : List Dn} {known : List Nat} {x : ByteArray} (h : numberN tr known x ≠ 0) : x.toList ∈ wordsOf tr known := by
  have hs : sumOf tr known x known ≠ 0 := fun e => h (by unfold numberN; omega)
  have : ∀ l : List Nat, sumOf tr known x l ≠ 0 → ∃ a ∈ l, (cmAt tr a).word = x := by
    intro l
    induction l with
    | nil => intro h; simp [sumOf] at h
    | cons a r ih =>
      intro h
      by_cases ha : adds tr known x a = 0
      · have : sumOf tr known x r ≠ 0 := fun e => h (by simp only [sumOf, List.map_cons, List.sum_cons] at e ⊢; omega)
        obtain ⟨b, hb, e⟩ := ih this
        exact ⟨b, List.mem_cons_of_mem _ hb, e⟩
      · refine ⟨a, List.mem_cons_self .., ?_⟩
        by_cases e : (cmAt tr a).word = x
        · exact e
        · exact absurd (if_neg (fun hh => e hh.2.1)) ha
  obtain ⟨a, ha, e⟩ := this known hs
  exact List.mem_map.2 ⟨a, ha, by rw [e]⟩

theorem has_word {tr : List Dn} {known : List Nat} {k : Kd} {x : ByteArray} (h : hasB tr known k x = true) : x.toList ∈ wordsOf tr known := by
  obtain ⟨a, ha, e⟩ := List.any_eq_true.1 h
  simp only [isThere, Bool.and_eq_true, decide_eq_true_eq] at e
  exact List.mem_map.2 ⟨a, ha, by rw [e.1.2]⟩

/-- The lines of the words in out that p takes. -/
theorem lines_eq {xs : List (List UInt8)} {out : List ByteArray} {p : ByteArray → Bool} {g : List UInt8 → List UInt8} {g' : ByteArray → List UInt8}
    (ho : (out.map ByteArray.toList).Pairwise (· < ·)) (hx : xs.Pairwise (· < ·)) (hm : ∀ x : ByteArray, x.data.toList ∈ xs ↔ p x = true) (hin : ∀ x : ByteArray, p x = true → x.toList ∈ out.map ByteArray.toList)
    (hg : ∀ x : ByteArray, g' x = if p x = true then g x.data.toList else []) : xs.flatMap g = out.flatMap g' := by
  have e : xs = (out.filter p).map ByteArray.toList := by
    refine sorted_unique _ _ hx ?_ fun x => ?_
    · exact List.Pairwise.sublist (List.Sublist.map _ List.filter_sublist) ho
    · rw [List.mem_map]
      have hxx : x = (ByteArray.mk x.toArray).data.toList := rfl
      constructor
      · intro h
        have hp : p ⟨x.toArray⟩ = true := (hm ⟨x.toArray⟩).1 h
        obtain ⟨y, hy, hyx⟩ := List.mem_map.1 (hin _ hp)
        have : y = ⟨x.toArray⟩ := toList_inj hyx
        subst this
        exact ⟨_, List.mem_filter.2 ⟨hy, hp⟩, by rw [ByteArray.toList_eq]⟩
      · rintro ⟨y, hy, rfl⟩
        rw [ByteArray.toList_eq]
        exact (hm y).2 (List.mem_filter.1 hy).2
  rw [e, map_flatMap', filter_flatMap]
  congr 1
  funext x
  rw [hg x, ByteArray.toList_eq]

section
variable {me : Nat} {log : List Cm} {h8 : log.length ≤ 8} {hok : ∀ c ∈ log, CmOk c}

theorem text_view {s : ByteArray} (h : TextIs (logCart log h8 hok) s) : IsView (ownTr me log) (List.range log.length) s := by
  obtain ⟨xi, xc, xn, ⟨hi1, hi2⟩, ⟨hc1, hc2⟩, ⟨hn1, hn2⟩, hs⟩ := h
  obtain ⟨out, ho1, ho2⟩ := exists_sorted (wordsOf (ownTr me log) (List.range log.length))
  have hmap : (out.map fun l => ByteArray.mk l.toArray).map ByteArray.toList = out := by
    rw [List.map_map]
    conv => rhs; rw [← List.map_id out]
    refine List.map_congr_left fun l _ => ?_
    simp [ByteArray.toList_eq]
  refine ⟨out.map fun l => ⟨l.toArray⟩, by rw [hmap]; exact ho1, by rw [hmap]; exact ho2, ?_⟩
  rw [hs]
  unfold viewL
  congr 1
  · congr 1
    · refine lines_eq (p := fun x => decide (0 < numberN (ownTr me log) (List.range log.length) x)) (by rw [hmap]; exact ho1) hi1 (fun x => ?_) (fun x hx => ?_) (fun x => ?_)
      · rw [hi2, logCart_it me]
        split
        · rename_i h0; simp [h0]
        · rename_i h0; simp; omega
      · rw [hmap, ho2]; exact number_word (by simp at hx; omega)
      · unfold itemLine itemLineC
        rw [logCart_it me]
        simp only [decide_eq_true_eq]
        split
        · rename_i h0; rw [if_neg (by omega)]; rfl
        · rfl
    · refine lines_eq (p := fun x => hasB (ownTr me log) (List.range log.length) .established x) (by rw [hmap]; exact ho1) hc1 (fun x => ?_) (fun x hx => ?_) (fun x => rfl)
      · rw [hc2, logCart_cp me]
      · rw [hmap, ho2]; exact has_word hx
  · refine lines_eq (p := fun x => hasB (ownTr me log) (List.range log.length) .closeWait x) (by rw [hmap]; exact ho1) hn1 (fun x => ?_) (fun x hx => ?_) (fun x => rfl)
    · rw [hn2, logCart_no me]
    · rw [hmap, ho2]; exact has_word hx

theorem own_word8 {x : ByteArray} (h : x.toList ∈ wordsOf (ownTr me log) (List.range log.length)) (hok : ∀ c ∈ log, CmOk c) : x.data.toList.length ≤ 8 := by
  obtain ⟨i, hi, e⟩ := List.mem_map.1 h
  have hi' : i < log.length := List.mem_range.1 hi
  have hx := toList_inj e
  rw [← hx, own_cm me hi']
  have := (hok _ (List.getElem_mem hi')).word
  simp only [wordB, Bool.and_eq_true, decide_eq_true_eq] at this
  have e2 : log[i].word.data.toList.length = log[i].word.size := Array.length_toList
  omega

theorem cart_word8 (me : Nat) (x : List UInt8) : ((logCart log h8 hok).it x).isSome = true ∨ (logCart log h8 hok).cp x = true ∨ (logCart log h8 hok).no x = true → x.length ≤ 8 := by
  have hxx : x = (ByteArray.mk x.toArray).data.toList := rfl
  rw [hxx]
  rintro (h | h | h)
  · rw [logCart_it me] at h
    refine own_word8 (me := me) (number_word fun e => ?_) hok
    rw [if_pos e] at h
    simp at h
  · rw [logCart_cp me] at h
    exact own_word8 (has_word h) hok
  · rw [logCart_no me] at h
    exact own_word8 (has_word h) hok

end
end Go.Proofs.YtckmppkdpnhodaaGreatDoor
