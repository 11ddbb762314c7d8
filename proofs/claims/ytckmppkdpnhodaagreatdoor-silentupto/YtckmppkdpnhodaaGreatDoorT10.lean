/-
  Replicas that hear of each other, purely: states, letters, what stays true of them. Contract of (*Replica).hasWhatGoes. The cart of a log against the document's: goesB is the opposite of lacks; numbers, coupons, notes. The text of a log's cart is the document's view of it. Contract of (*strings.Builder).WriteString at this program (the shelf's own does not lay here: its copyCheck was cut otherwise). Contract of cart.writeWords.
-/
import Derived.Test.YtckmppkdpnhodaaGreatDoorT04
import Derived.Test.YtckmppkdpnhodaaGreatDoorT09
import Derived.Test.YtckmppkdpnhodaaGreatDoorT05
import Derived.Shelf.Strings.BuilderK
import Derived.Test.YtckmppkdpnhodaaGreatDoorProg
import Derived.WalkKit
import Derived.Test.YtckmppkdpnhodaaGreatDoorIter
import Derived.Test.YtckmppkdpnhodaaGreatDoorShelf
namespace Go.Proofs.YtckmppkdpnhodaaGreatDoor
set_option linter.unusedVariables false
set_option linter.unusedSimpArgs false
open Go.RowKit Go.Proofs

/-- A replica's state: what it knows, its time, what waits to be sent, whom an answer is owed. -/
structure Sr where
  log : List En
  now : Nat
  its : List It
  owed : Nat → Bool

/-- A letter: from whom, to whom, how many commands of the other are known, commands. -/
structure Lt where
  src : Nat
  dst : Nat
  h : Nat
  es : List En

/-- What waits for a replica. -/
def waitL (its : List It) (j : Nat) : List En := (its.filter fun p => decide (p.to = j)).map fun p => p.en

theorem waitL_length (its : List It) (j : Nat) : (waitL its j).length = cntI its j := by simp [waitL, cntI, List.countP_eq_length_filter]

theorem mem_waitL {its : List It} {j : Nat} {x : En} : x ∈ waitL its j ↔ ∃ p ∈ its, p.to = j ∧ p.en = x := by
  simp [waitL, and_assoc]

/-- A replica among n whose state is well. -/
structure SrOk (n i : Nat) (s : Sr) : Prop where
  log : LogFrom i [] s.log
  org : ∀ x ∈ s.log, x.org < n
  to : ∀ p ∈ s.its, p.to < n ∧ p.to ≠ i ∧ p.due ≤ s.now + 1
  room : ∀ j, cntI s.its j ≤ 8
  owe : ∀ j, s.owed j = true → j < n ∧ j ≠ i

/-- The replicas' states are well, each and together. -/
structure NetOk (n : Nat) (S : Nat → Sr) : Prop where
  one : ∀ i, i < n → SrOk n i (S i)
  src : ∀ i, i < n → ∀ x ∈ (S i).log, x ∈ (S x.org).log
  wait : ∀ i, i < n → ∀ j, j < n → j ≠ i → ∃ a, a ≤ cntL (S j).log i ∧ (waitL (S i).its j).Perm ((ownL i (S i).log).drop a)

/-- A letter that a replica may have written. -/
structure LtOk (n : Nat) (S : Nat → Sr) (L : Lt) : Prop where
  src : L.src < n
  dst : L.dst < n
  ne : L.dst ≠ L.src
  h : L.h ≤ cntL (S L.src).log L.dst
  es : ∀ x ∈ L.es, x ∈ (S L.src).log ∧ x.org = L.src

def updS (S : Nat → Sr) (i : Nat) (s : Sr) : Nat → Sr := fun k => if k = i then s else S k

theorem updS_same (S : Nat → Sr) (i : Nat) (s : Sr) : updS S i s i = s := by simp [updS]
theorem updS_other (S : Nat → Sr) {i k : Nat} (s : Sr) (h : k ≠ i) : updS S i s k = S k := by simp [updS, h]

/-- The state behind a letter that is taken. -/
def takeS (s : Sr) (L : Lt) : Sr := ⟨learnAll s.log L.es, s.now, keepL L.src L.h s.its, if L.es = [] then s.owed else fun k => if k = L.src then true else s.owed k⟩

/-- Logs grow, own ones among them by doing alone. -/
theorem NetOk.lt {n : Nat} {S : Nat → Sr} (_ : NetOk n S) {S' : Nat → Sr} (hg : ∀ i, i < n → ∃ l, (S' i).log = (S i).log ++ l) {L : Lt} (hL : LtOk n S L) : LtOk n S' L := by
  obtain ⟨l, hl⟩ := hg L.src hL.src
  refine ⟨hL.src, hL.dst, hL.ne, ?_, fun x hx => ⟨?_, (hL.es x hx).2⟩⟩
  · rw [hl, cntL_append]; exact Nat.le_trans hL.h (Nat.le_add_right _ _)
  · rw [hl]; exact List.mem_append_left _ (hL.es x hx).1

theorem waitL_keep (j to cnt : Nat) (its : List It) : waitL (keepL to cnt its) j = if j = to then (waitL its j).filter (fun x => decide (cnt < x.seq)) else waitL its j := by
  unfold waitL keepL
  by_cases e : j = to
  · subst e
    rw [if_pos rfl, List.filter_map, List.filter_filter, List.filter_filter]
    congr 1
    refine List.filter_congr fun p _ => ?_
    by_cases h : p.to = j <;> by_cases h2 : p.en.seq ≤ cnt <;> simp [delB, h, h2] <;> omega
  · rw [if_neg e, List.filter_filter]
    congr 1
    refine List.filter_congr fun p _ => ?_
    by_cases h : p.to = j
    · have : p.to ≠ to := fun h' => e (h ▸ h')
      simp [delB, h, e]
    · simp [h]

theorem drop_filter {me o : Nat} : ∀ {l : List En} (m : Nat), (∀ (k : Nat) (x : En), l[k]? = some x → x.seq = m + k + 1 ∧ x.org = o) → ∀ (cnt : Nat), l.filter (fun x => decide (cnt < x.seq)) = l.drop (cnt - m)
  | [], m, _, cnt => by simp
  | x :: l, m, h, cnt => by
    have h0 := (h 0 x rfl).1
    have ih := drop_filter (me := me) (o := o) (l := l) (m + 1) (fun k y hy => by have := h (k + 1) y (by simpa using hy); omega) cnt
    rw [List.filter_cons, ih]
    by_cases e : cnt < x.seq
    · have e1 : cnt - m = 0 := by omega
      have e2 : cnt - (m + 1) = 0 := by omega
      rw [if_pos (by simpa using e), e1, e2]
      rfl
    · rw [if_neg (by simpa using e), show cnt - m = (cnt - (m + 1)) + 1 by omega]
      rfl

theorem own_drop_filter {me o : Nat} {log : List En} (h : LogFrom me [] log) (a cnt : Nat) : ((ownL o log).drop a).filter (fun x => decide (cnt < x.seq)) = (ownL o log).drop (max a cnt) := by
  have hs : ∀ (k : Nat) (x : En), ((ownL o log).drop a)[k]? = some x → x.seq = a + k + 1 ∧ x.org = o := fun k x hx => by
    rw [List.getElem?_drop] at hx
    have h1 := h.seq hx
    have h0 : cntL ([] : List En) o = 0 := rfl
    exact ⟨by omega, (mem_ownL.1 (List.mem_of_getElem? hx)).2⟩
  rw [drop_filter (me := me) (o := o) a hs cnt, List.drop_drop]
  congr 1
  omega

theorem cntI_keep_le (its : List It) (to cnt j : Nat) : cntI (keepL to cnt its) j ≤ cntI its j := by
  rw [← waitL_length, ← waitL_length, waitL_keep]
  split
  · exact List.length_filter_le _ _
  · exact Nat.le_refl _

/-- A letter that some replica wrote comes to the one that it was written to. -/
theorem NetOk.take {n : Nat} {S : Nat → Sr} (hS : NetOk n S) {L : Lt} (hL : LtOk n S L) : NetOk n (updS S L.dst (takeS (S L.dst) L)) := by
  have hd := hS.one L.dst hL.dst
  have hne : ∀ x ∈ L.es, x.org ≠ L.dst := fun x hx e => hL.ne (e ▸ (hL.es x hx).2)
  have hgrow : ∀ i, ∃ l, (updS S L.dst (takeS (S L.dst) L) i).log = (S i).log ++ l := fun i => by
    by_cases e : i = L.dst
    · subst e; rw [updS_same]; exact learnAll_prefix _ _
    · rw [updS_other _ _ e]; exact ⟨[], by simp⟩
  have hown : ∀ i, ownL i (updS S L.dst (takeS (S L.dst) L) i).log = ownL i (S i).log := fun i => by
    by_cases e : i = L.dst
    · subst e; rw [updS_same]; exact learnAll_own hne
    · rw [updS_other _ _ e]
  refine ⟨fun i hi => ?_, fun i hi x hx => ?_, fun i hi j hj hji => ?_⟩
  · by_cases e : i = L.dst
    · subst e
      rw [updS_same]
      refine ⟨learnAll_ok hd.log hne, fun x hx => ?_, fun p hp => hd.to p (List.mem_filter.1 hp).1, fun j => Nat.le_trans (cntI_keep_le _ _ _ _) (hd.room j), fun j hj => ?_⟩
      · rcases learnAll_mem hx with h | h
        · exact hd.org x h
        · rw [(hL.es x h).2]; exact hL.src
      · unfold takeS at hj
        dsimp only at hj
        split at hj
        · exact hd.owe j hj
        · dsimp only at hj
          split at hj
          · rename_i e; subst e; exact ⟨hL.src, Ne.symm hL.ne⟩
          · exact hd.owe j hj
    · rw [updS_other _ _ e]; exact hS.one i hi
  · have : x ∈ (S x.org).log := by
      by_cases e : i = L.dst
      · subst e
        rw [updS_same] at hx
        rcases learnAll_mem hx with h | h
        · exact hS.src _ hi x h
        · have := hL.es x h
          rw [this.2]; exact this.1
      · rw [updS_other _ _ e] at hx; exact hS.src i hi x hx
    obtain ⟨l, hl⟩ := hgrow x.org
    rw [hl]; exact List.mem_append_left _ this
  · obtain ⟨a, ha, hp⟩ := hS.wait i hi j hj hji
    rw [hown i]
    obtain ⟨lj, hlj⟩ := hgrow j
    have haj : a ≤ cntL (updS S L.dst (takeS (S L.dst) L) j).log i := by rw [hlj, cntL_append]; omega
    by_cases e : i = L.dst
    · subst e
      rw [updS_same]
      show ∃ a, _ ∧ (waitL (keepL L.src L.h (S L.dst).its) j).Perm _
      rw [waitL_keep]
      by_cases ej : j = L.src
      · subst ej
        rw [if_pos rfl]
        refine ⟨max a L.h, ?_, ?_⟩
        · have := hL.h
          rw [updS_other _ _ (Ne.symm hL.ne)]
          omega
        · rw [← own_drop_filter hd.log]
          exact hp.filter _
      · rw [if_neg ej]
        exact ⟨a, haj, hp⟩
    · rw [updS_other _ _ e]
      exact ⟨a, haj, hp⟩

/-- A command is done. -/
theorem NetOk.do {n i : Nat} {S : Nat → Sr} (hS : NetOk n S) (hi : i < n) {x : En} (hx : x.org = i) (hs : x.seq = cntL (S i).log i + 1) (ha : x.ah = reachOf (S i).log) {its' : List It}
    (ho : ∀ j, cntI (S i).its j < 8) (ht : ∀ p ∈ its', p.to < n ∧ p.to ≠ i ∧ p.due ≤ (S i).now + 1) (hw : ∀ j, j < n → j ≠ i → (waitL its' j).Perm (waitL (S i).its j ++ [x])) : NetOk n (updS S i ⟨(S i).log ++ [x], (S i).now, its', (S i).owed⟩) := by
  have hi' := hS.one i hi
  have hgrow : ∀ k, ∃ l, (updS S i ⟨(S i).log ++ [x], (S i).now, its', (S i).owed⟩ k).log = (S k).log ++ l := fun k => by
    by_cases e : k = i
    · subst e; rw [updS_same]; exact ⟨_, rfl⟩
    · rw [updS_other _ _ e]; exact ⟨[], by simp⟩
  have hnil : ∀ j, ¬ (j < n ∧ j ≠ i) → cntI its' j = 0 := fun j hj => by
    unfold cntI
    rw [List.countP_eq_zero]
    intro p hp e
    have := ht p hp
    simp at e
    subst e
    exact hj ⟨this.1, this.2.1⟩
  refine ⟨fun k hk => ?_, fun k hk y hy => ?_, fun k hk j hj hjk => ?_⟩
  · by_cases e : k = i
    · subst e
      rw [updS_same]
      refine ⟨hi'.log.snoc ⟨by rw [hx]; exact hs, fun o => by rw [ha, reachOf_get]; exact Nat.le_refl _, fun _ => ha⟩, fun y hy => ?_, ht, fun j => ?_, hi'.owe⟩
      · rcases List.mem_append.1 hy with h | h
        · exact hi'.org y h
        · simp at h; subst h; rw [hx]; exact hk
      · by_cases hj : j < n ∧ j ≠ k
        · have := (hw j hj.1 hj.2).length_eq
          rw [List.length_append, waitL_length, waitL_length] at this
          have := ho j
          simp at *
          omega
        · show cntI its' j ≤ 8
          rw [hnil j hj]; omega
    · rw [updS_other _ _ e]; exact hS.one k hk
  · by_cases e : k = i
    · subst e
      rw [updS_same] at hy
      rcases List.mem_append.1 hy with h | h
      · obtain ⟨l, hl⟩ := hgrow y.org
        rw [hl]; exact List.mem_append_left _ (hS.src k hk y h)
      · simp at h; subst h; rw [hx, updS_same]; simp
    · rw [updS_other _ _ e] at hy
      obtain ⟨l, hl⟩ := hgrow y.org
      rw [hl]; exact List.mem_append_left _ (hS.src k hk y hy)
  · obtain ⟨a, h1, h2⟩ := hS.wait k hk j hj hjk
    obtain ⟨l, hl⟩ := hgrow j
    refine ⟨a, by rw [hl, cntL_append]; omega, ?_⟩
    by_cases e : k = i
    · subst e
      rw [updS_same]
      show (waitL its' j).Perm ((ownL k ((S k).log ++ [x])).drop a)
      rw [ownL_snoc, if_pos hx]
      have hl2 := h2.length_eq
      refine (hw j hj hjk).trans ?_
      by_cases hle : a ≤ (ownL k (S k).log).length
      · rw [List.drop_append_of_le_length hle]
        exact h2.append_right _
      · exfalso
        rw [ownL_length] at hle
        obtain ⟨c, hc⟩ : ∃ c, c ∈ (S j).log ∧ c.org = k ∧ c.seq = cntL (S k).log k + 1 := by
          obtain ⟨c, h3, h4, h5⟩ := (hS.one j hj).log.the (o := k) (s := cntL (S k).log k + 1) (by omega) (by omega)
          exact ⟨c, h3, h4, h5⟩
        have := hS.src j hj c hc.1
        rw [hc.2.1] at this
        have := (hi'.log.place this).2.1
        rw [hc.2.1] at this
        omega
    · rw [updS_other _ _ e]; exact h2

end Go.Proofs.YtckmppkdpnhodaaGreatDoor

namespace Go.Proofs.YtckmppkdpnhodaaGreatDoor
set_option linter.unusedVariables false
set_option linter.unusedSimpArgs false
open Go.RowKit Go.Proofs Go.Shelf

attribute [local go_sem ↓] Go.wp_at_zero Go.wp_at_succ

/-- What the command takes out is in the cart. -/
def goesB (S : CartS) (c : Cm) : Bool :=
  match c.k with
  | .listen => (S.it c.word.data.toList).isSome
  | .finWait => S.cp c.word.data.toList
  | _ => true

end Go.Proofs.YtckmppkdpnhodaaGreatDoor

namespace Go.Proofs.YtckmppkdpnhodaaGreatDoor
set_option linter.unusedVariables false
set_option linter.unusedSimpArgs false
open Go.RowKit Go.Proofs

theorem snoc_ind {α : Type} {P : List α → Prop} (h0 : P []) (h1 : ∀ l a, P l → P (l ++ [a])) : ∀ l, P l := fun l => by
  have : ∀ n (l : List α), l.length = n → P l := by
    intro n
    induction n with
    | zero => intro l hl; rw [List.length_eq_zero_iff.1 hl]; exact h0
    | succ n ih =>
      intro l hl
      have hne : l ≠ [] := fun e => by rw [e] at hl; simp at hl
      rw [← List.dropLast_concat_getLast hne]
      exact h1 _ _ (ih _ (by simp [hl]))
  exact this _ l rfl

theorem bytes_ext {a b : ByteArray} (h : a.data.toList = b.data.toList) : a = b := by
  cases a; cases b; simp only [ByteArray.mk.injEq]; exact Array.toList_inj.1 h

section
variable (me : Nat) {log : List Cm} {h8 : log.length ≤ 8} {hok : ∀ c ∈ log, CmOk c}

end
end Go.Proofs.YtckmppkdpnhodaaGreatDoor

namespace Go.Proofs.YtckmppkdpnhodaaGreatDoor
set_option linter.unusedVariables false
set_option linter.unusedSimpArgs false
open Go.RowKit Go.Proofs

def wordLine (kind : List UInt8) (s : List UInt8) : List UInt8 := kind ++ s ++ [10]
def itemLineC (S : CartS) (s : List UInt8) : List UInt8 := itemW ++ s ++ [32] ++ (decN ((S.it s).getD 0)).data.toList ++ [10]

/-- The text of a cart. -/
def TextIs (S : CartS) (s : ByteArray) : Prop :=
  ∃ xi xc xn : List (List UInt8), (xi.Pairwise (· < ·) ∧ ∀ x, x ∈ xi ↔ (S.it x).isSome = true) ∧ (xc.Pairwise (· < ·) ∧ ∀ x, x ∈ xc ↔ S.cp x = true) ∧ (xn.Pairwise (· < ·) ∧ ∀ x, x ∈ xn ↔ S.no x = true) ∧
    s.data.toList = xi.flatMap (itemLineC S) ++ xc.flatMap (wordLine couponW) ++ xn.flatMap (wordLine noteW)

section
variable {me : Nat} {log : List Cm} {h8 : log.length ≤ 8} {hok : ∀ c ∈ log, CmOk c}

end
end Go.Proofs.YtckmppkdpnhodaaGreatDoor

namespace Go.Proofs.YtckmppkdpnhodaaGreatDoor
set_option linter.unusedVariables false
set_option linter.unusedSimpArgs false
open Go.RowKit Go.Proofs

theorem Tryz.bSize : (Tryz.prog.info? 185).map (·.size) = some 2 := by kernel_rfl
theorem Tryz.bLies : liesAt Tryz.prog Tryz.prog.depth 185 (2 / Tryz.prog.cellsOf 185) 0 185 1 = true := by kernel_rfl
theorem Tryz.byteInfo : (Tryz.prog.info? 5).map (fun i => (i.zero, i.size, i.bytes)) = some (some (.int .u8 0), 1, 1) := by kernel_rfl

set_option maxHeartbeats 1000000 in
set_option maxRecDepth 100000 in
theorem copyCheck_used (b : Nat) (w : World) (h0 : w.cell? ⟨b, 0, none⟩ = some (.pointer (some ⟨b, 0, none⟩))) :
    Calls Tryz.prog 135 #[.pointer (some ⟨b, 0, none⟩)] w fun e w' => e = .returned (.tuple #[]) ∧ w' = w := by
  obtain ⟨j, hj, _⟩ := Option.map_eq_some_iff.1 Tryz.bSize
  go_enter Tryz.func135, Tryz.ntmps135
  go_wp2
  rw [Lib.run_neq_ptr_same w _ Tryz.underlying183 hj]
  go_wp2
  go_end0
  exact ⟨rfl, rfl⟩

set_option maxHeartbeats 1000000 in
set_option maxRecDepth 100000 in
theorem copyCheck_fresh (b : Nat) (w : World) (h0 : w.cell? ⟨b, 0, none⟩ = some (.pointer none)) (hsh : w.shape? b = some (185, 2)) (hfz : w.frozen? ⟨b, 0, none⟩ = false) :
    Calls Tryz.prog 135 #[.pointer (some ⟨b, 0, none⟩)] w fun e w' => e = .returned (.tuple #[]) ∧ w' = w.setCell ⟨b, 0, none⟩ (.pointer (some ⟨b, 0, none⟩)) := by
  obtain ⟨j, hj, hjs⟩ := Option.map_eq_some_iff.1 Tryz.bSize
  go_enter Tryz.func135, Tryz.ntmps135
  go_wp2
  rw [Lib.run_to_unsafe w ⟨b, 0, none⟩ Tryz.underlying183 Tryz.underlying218 hj (by rw [hjs]; decide) hsh (Nat.zero_lt_succ 1)]
  simp only [Result.andThen]
  rw [Oper.upon_value]
  go_wp2
  rw [run_callFunc_extern Tryz.func162 (by kernel_rfl) (by kernel_rfl) (by kernel_rfl) (e := Extern.AbiNoEscape.same) (by kernel_rfl)]
  rw [Lib.run_noEscape]
  simp only [Result.andThen]
  rw [Oper.upon_value]
  go_wp2
  rw [Lib.run_from_unsafe w ⟨b, 0, none⟩ Tryz.underlying218 Tryz.underlying183 hj hsh Tryz.bLies]
  simp only [Result.andThen]
  rw [Oper.upon_value]
  go_wp2
  go_end0
  exact ⟨rfl, rfl⟩

theorem copyCheck_k (B b : Nat) (bs : List Value) (w : World) (h : Lib.IsBuilderF 185 5 B b bs w) :
    Calls Tryz.prog 135 #[.pointer (some ⟨b, 0, none⟩)] w fun e w' => e = .returned (.tuple #[]) ∧ (Lib.BuilderAtF 185 5 B b (.pointer (some ⟨b, 0, none⟩)) bs w' ∧ Below B w w' ∧ Lib.OthersKept 5 (some b) w w') := by
  rcases h with h | h
  · refine (copyCheck_fresh b w h.cell0 h.shape h.frozen0).mono ?_
    rintro e w' ⟨rfl, rfl⟩
    exact ⟨rfl, h.used _, (Below.refl B w).setCell (p := ⟨b, 0, none⟩) h.1 _, (Lib.OthersKept.refl _ _ w).setCell ⟨b, 0, none⟩ rfl _⟩
  · refine (copyCheck_used b w h.cell0).mono ?_
    rintro e w' ⟨rfl, rfl⟩
    exact ⟨rfl, h, Below.refl B _, Lib.OthersKept.refl _ _ _⟩

set_option maxHeartbeats 2000000 in
set_option maxRecDepth 100000 in
theorem writeString_k (B b : Nat) (bs : List Value) (s : ByteArray) (w : World) (h : Lib.IsBuilderF 185 5 B b bs w) (hlen : bs.length + s.size ≤ 140737488355328) (hBw : B ≤ w.heap.size) :
    Calls Tryz.prog 96 #[.pointer (some ⟨b, 0, none⟩), .string s] w fun e w' => e = .returned (.tuple #[.int .i64 s.size, .nilIface]) ∧ (Lib.BuilderAtF 185 5 B b (.pointer (some ⟨b, 0, none⟩)) (bs ++ Lib.strCells s) w' ∧ Below B w w' ∧ Lib.OthersKept 5 (some b) w w') := by
  obtain ⟨i0, hi, hz0, hz1, hz2⟩ := info_parts Tryz.byteInfo
  go_enter Tryz.func96, Tryz.ntmps96
  go_wp2_with (go_at_call 135; refine (copyCheck_k B b bs _ h).mono ?_)
  rintro e w1 ⟨rfl, h1, hb1, hk1⟩
  obtain ⟨hB, v, hbk, hown, hne⟩ := h1
  have c0 : w1.cell? ⟨b, 0, none⟩ = some (.pointer (some ⟨b, 0, none⟩)) := by rw [Lib.cell_of_heap hbk]; rfl
  have c1 : w1.cell? ⟨b, 1, none⟩ = some v := by rw [Lib.cell_of_heap hbk]; rfl
  go_wp2_with (at_builtin; refine Lib.wpList_append_own_stringF _ rfl _ _ 55 9 rfl B 5 i0 Tryz.underlying55 Tryz.underlying9 hi hz0 hz1 hz2 _ _ _ rfl hown s rfl ?c3 ?c4 ?c5 ?_)
  case c3 => unfold maxLen; omega
  case c4 => omega
  case c5 => have := hb1.size; omega
  intro v' w2 hown' hgrow _
  have hlt : b < w1.heap.size := by
    rcases Nat.lt_or_ge b w1.heap.size with h' | h'
    · exact h'
    · simp [Array.getElem?_eq_none h'] at hbk
  have hb2 : w2.heap[b]? = some (.cells #[.pointer (some ⟨b, 0, none⟩), v] 185 (0, 0)) := by
    rw [hgrow.block b hlt (fun e => hne e.symm)]
    exact hbk
  have d0 : w2.cell? ⟨b, 0, none⟩ = some (.pointer (some ⟨b, 0, none⟩)) := by rw [Lib.cell_of_heap hb2]; rfl
  have d1 : w2.cell? ⟨b, 1, none⟩ = some v := by rw [Lib.cell_of_heap hb2]; rfl
  have f1 : w2.frozen? ⟨b, 1, none⟩ = false := Lib.frozen_of_heap hb2 1
  obtain ⟨ao, n', cap, rfl⟩ : ∃ ao n' cap, v' = .slice ao n' cap := by
    rcases hown'.2 with ⟨hv, _⟩ | ⟨g, cap, cur, fz, hv, _⟩
    · exact ⟨_, _, _, hv⟩
    · exact ⟨_, _, _, hv⟩
  go_wp2
  go_ret2
  refine ⟨rfl, ?_, ?_, (hk1.grown hgrow (Lib.ownsRowF_kind hown)).setCell ⟨b, 1, none⟩ rfl _⟩
  · exact Lib.BuilderAtF.put (T := 185) (e := 5) hB hb2 (bs' := bs ++ Lib.strCells s) (by simpa [Lib.strCells_length] using hown') (by decide)
  · exact (hb1.grown hgrow (by have := hb1.size; omega) (fun k hk => (hown.lt k hk).1)).setCell (p := ⟨b, 1, none⟩) hB _

end Go.Proofs.YtckmppkdpnhodaaGreatDoor

namespace Go.Proofs.YtckmppkdpnhodaaGreatDoor
set_option linter.unusedVariables false
set_option linter.unusedSimpArgs false
open Go.RowKit Go.Proofs Go.Shelf Go.Sort Go.Maps

/-- A slice of texts whose row is no row of bytes. -/
def StrK (w : World) (v : Value) (xs : List (List UInt8)) : Prop :=
  ∃ p cap, v = .slice p xs.length cap ∧ ∀ (i : Nat) (x : List UInt8), xs[i]? = some x → ∃ (g : Nat) (cur : Array Value), p = some ⟨g, 0, none⟩ ∧ w.heap[g]? = some (.cells cur 9 (0, 0)) ∧ cur[i]? = some (Value.string ⟨x.toArray⟩)

theorem StrK.of_owns {w : World} {base n : Nat} {v : Value} {xs : List (List UInt8)} (hn : n = xs.length) (h : w.ownsRow base 9 1 v n (xs.map encStr)) : StrK w v xs := by
  subst hn
  rcases h.2 with ⟨rfl, h0⟩ | ⟨g, cap, cur, hv, hb, hg, h1, h2, h3, h4⟩
  · have : xs = [] := List.length_eq_zero_iff.1 h0
    subst this
    exact ⟨none, 0, rfl, fun i x hx => by simp at hx⟩
  · refine ⟨some ⟨g, 0, none⟩, cap, hv, fun i x hx => ⟨g, cur, rfl, hg, ?_⟩⟩
    have hi : i < xs.length := (List.getElem?_eq_some_iff.1 hx).1
    rw [← Array.getElem?_toList]
    have : (cur.toList.take (xs.length * 1))[i]? = (xs.map encStr)[i]? := by rw [h4]
    rw [List.getElem?_take_of_lt (by omega)] at this
    rw [this, List.getElem?_map, hx]
    rfl

theorem StrK.kept {w w' : World} {B b : Nat} {bs : List Value} {v : Value} {xs : List (List UInt8)} (h : StrK w v xs) (hb : Lib.IsBuilderF 185 5 B b bs w) (hk : Lib.OthersKept 5 (some b) w w') : StrK w' v xs := by
  obtain ⟨p, cap, hv, hc⟩ := h
  refine ⟨p, cap, hv, fun i x hx => ?_⟩
  obtain ⟨g, cur, h1, h2, h3⟩ := hc i x hx
  refine ⟨g, cur, h1, hk g _ h2 (fun e => ?_) (fun c fz e => by cases e), h3⟩
  cases e
  rcases hb with ⟨-, u, hu, -⟩ | ⟨-, u, hu, -⟩ <;> (rw [h2] at hu; cases hu)

theorem StrK.below {w w' : World} {v : Value} {xs : List (List UInt8)} (h : StrK w v xs) (hb : Below w.heap.size w w') : StrK w' v xs := by
  obtain ⟨p, cap, hv, hc⟩ := h
  refine ⟨p, cap, hv, fun i x hx => ?_⟩
  obtain ⟨g, cur, h1, h2, h3⟩ := hc i x hx
  exact ⟨g, cur, h1, (hb.block g (Array.getElem?_eq_some_iff.1 h2).1).trans h2, h3⟩

theorem rowF_below {w w' : World} {B : Nat} {e : TypeId} {v : Value} {n : Nat} {xs : List Value} (h : w.ownsRowF B e 1 v n xs) (hb : Below w.heap.size w w') : w'.ownsRowF B e 1 v n xs := by
  obtain ⟨h0, h⟩ := h
  refine ⟨h0, ?_⟩
  rcases h with h | ⟨g, cap, cur, fz, h1, h2, h3, h4⟩
  · exact .inl h
  · exact .inr ⟨g, cap, cur, fz, h1, h2, (hb.block g (Array.getElem?_eq_some_iff.1 h3).1).trans h3, h4⟩

theorem builder_below {T e : TypeId} {B b : Nat} {bs : List Value} {w w' : World} (h : Lib.IsBuilderF T e B b bs w) (hb : Below w.heap.size w w') : Lib.IsBuilderF T e B b bs w' := by
  have k : ∀ p, Lib.BuilderAtF T e B b p bs w → Lib.BuilderAtF T e B b p bs w' := fun p ⟨h1, v, h2, h3, h4⟩ =>
    ⟨h1, v, (hb.block b (Array.getElem?_eq_some_iff.1 h2).1).trans h2, rowF_below h3 hb, h4⟩
  exact h.elim (fun x => .inl (k _ x)) (fun x => .inr (k _ x))

theorem sorted_lt {ss ks : List (List UInt8)} (hp : ss.Perm ks) (hn : ks.Nodup) : (ss.mergeSort (fun x y => decide (x ≤ y))).Pairwise (· < ·) ∧ ∀ s, s ∈ ss.mergeSort (fun x y => decide (x ≤ y)) ↔ s ∈ ks := by
  have hperm : (ss.mergeSort (fun x y => decide (x ≤ y))).Perm ks := (List.mergeSort_perm ss _).trans hp
  have h1 : (ss.mergeSort (fun x y => decide (x ≤ y))).Pairwise (fun a b => decide (a ≤ b) = true) :=
    List.pairwise_mergeSort (fun a b c hab hbc => by simp only [decide_eq_true_eq] at *; exact List.le_trans hab hbc) (fun a b => by simp only [Bool.or_eq_true, decide_eq_true_eq]; exact List.le_total a b) ss
  have h2 : (ss.mergeSort (fun x y => decide (x ≤ y))).Nodup := hperm.nodup_iff.2 hn
  refine ⟨(h1.and h2).imp fun {a b} h => ?_, fun s => hperm.mem_iff⟩
  have hle : a ≤ b := by simpa using h.1
  by_cases hlt : a < b
  · exact hlt
  · exact absurd (wd_tri hlt (List.not_lt.2 hle)) h.2

theorem wordLines_len (kind : List UInt8) (hk : kind.length ≤ 10) (xs : List (List UInt8)) (h8 : ∀ s ∈ xs, s.length ≤ 8) : (xs.flatMap (wordLine kind)).length ≤ 19 * xs.length := by
  induction xs with
  | nil => simp
  | cons x r ih =>
    have := ih (fun s hs => h8 s (List.mem_cons_of_mem _ hs))
    have hx := h8 x (List.mem_cons_self ..)
    simp only [List.flatMap_cons, List.length_append, wordLine, List.length_cons, List.length_nil] at *
    omega

theorem cells_put (l : List UInt8) (s : ByteArray) : Lib.byteCells l ++ Lib.strCells s = Lib.byteCells (l ++ s.data.toList) := by
  simp [Lib.byteCells, Lib.strCells]

set_option maxRecDepth 100000 in
set_option maxHeartbeats 4000000 in
theorem writeWords_any (B b mb n : Nat) (kind : ByteArray) (hkd : kind.size ≤ 10) (l : List UInt8) (hl : l.length ≤ 1099511627776) (f : List UInt8 → Option Value) (h8 : ∀ s, (f s).isSome = true → s.length ≤ 8) (hn : n ≤ 4294967296) (w : World)
    (hI : Lib.IsBuilderF 185 5 B b (Lib.byteCells l) w) (hB : B ≤ w.heap.size) (hm : MapIs w mb n f) :
    Calls Tryz.prog 98 #[.pointer (some ⟨b, 0, none⟩), .string kind, .map (some mb)] w fun e w' => e = .returned (.tuple #[]) ∧ ∃ xs : List (List UInt8), xs.Pairwise (· < ·) ∧ (∀ s, s ∈ xs ↔ (f s).isSome = true) ∧ xs.length ≤ n ∧
      Lib.IsBuilderF 185 5 B b (Lib.byteCells (l ++ xs.flatMap (wordLine kind.data.toList))) w' ∧ Below B w w' := by
  obtain ⟨D, hD, hsz, hnd, hks⟩ := hm.keys
  have HK : Hid (∀ W, Calls Tryz.prog 137 #[.map (some mb)] W fun e w' => e = .returned (.func (.func 164) #[] #[.pointer (some ⟨W.heap.size, 0, none⟩)]) ∧ w' = W.alloc (.cells #[.map (some mb)] 126)) :=
    fun W => callsIn_wide.1 (Tryz.maps_Keys_137 (some mb) W)
  have HS : Hid (Calls Tryz.prog 94 #[.func (.func 164) #[] #[.pointer (some ⟨w.heap.size, 0, none⟩)]] (w.alloc (.cells #[.map (some mb)] 126)) fun e w' => ∃ (p : Option Addr) (cap : Nat) (xs : List (List UInt8)), e = .returned (.slice p xs.length cap) ∧ StrK w' (.slice p xs.length cap) xs ∧ xs.Pairwise (· < ·) ∧ (∀ s, s ∈ xs ↔ (f s).isSome = true) ∧ xs.length ≤ n ∧ Below w.heap.size w w') := by
    refine (callsIn_wide.1 (Tryz.slices_Sorted_keys_94_137 mb n D heldR w hD (by unfold maxLen; omega) (by omega))).mono ?_
    rintro e w' ⟨v, ss, rfl, hS, hrow, -, hb⟩
    obtain ⟨g1, g2⟩ := sorted_lt hS hnd
    have hlen : (ss.mergeSort (fun x y => decide (x ≤ y))).length = ss.length := List.length_mergeSort ss
    have hst := StrK.of_owns hlen.symm hrow
    obtain ⟨p, cap, rfl, -⟩ := id hst
    refine ⟨p, cap, _, rfl, hst, g1, fun s => (g2 s).trans (hks s), ?_, ((Below.refl _ w).alloc (Nat.le_refl _) _).trans (hb.mono (by simp))⟩
    rw [hlen, hS.length_eq]
    have : (strKeys D).length = Maps.size D := by cases D <;> simp [strKeys, Maps.size]
    omega
  have HW : Hid (∀ W (l' : List UInt8) (s : ByteArray), Lib.IsBuilderF 185 5 B b (Lib.byteCells l') W → l'.length + s.size ≤ 140737488355328 → B ≤ W.heap.size → Calls Tryz.prog 96 #[.pointer (some ⟨b, 0, none⟩), .string s] W fun e w' => e = .returned (.tuple #[.int .i64 s.size, .nilIface]) ∧ Lib.IsBuilderF 185 5 B b (Lib.byteCells (l' ++ s.data.toList)) w' ∧ Below B W w' ∧ Lib.OthersKept 5 (some b) W w') :=
    fun W l' s h1 h2 h3 => (writeString_k B b (Lib.byteCells l') s W h1 (by rw [Lib.byteCells_length]; exact h2) h3).mono (by
      rintro e w' ⟨rfl, g1, g2, g3⟩
      rw [cells_put] at g1
      exact ⟨rfl, .inr g1, g2, g3⟩)
  have HI : Hid (Lib.IsBuilderF 185 5 B b (Lib.byteCells l) w) := hI
  have hmb := hm.lt
  clear hI hm hD hks hnd hsz
  go_enter Tryz.func98, Tryz.ntmps98
  go_wp2_with (first
    | (go_at_call 137; refine (HK.out _).mono ?_; rintro e w0 ⟨rfl, rfl⟩)
    | (go_at_call 94; refine HS.out.mono ?_; rintro e w1 ⟨p, cap, xs, rfl, hK, hsort, hmem, hxl, hb1⟩))
  have hI1 : Lib.IsBuilderF 185 5 B b (Lib.byteCells l) w1 := builder_below HI.out hb1
  have hx8 : ∀ s ∈ xs, s.length ≤ 8 := fun s hs => h8 s ((hmem s).1 hs)
  have HM : Hid ((∀ s, s ∈ xs ↔ (f s).isSome = true) ∧ xs.Pairwise (· < ·)) := ⟨hmem, hsort⟩
  have hs1 := hb1.size
  clear hmem hsort
  go_loopw [12] (fun i wr => ∃ k : Nat, k ≤ xs.length ∧ i = .int .i64 k ∧ Hid (Lib.IsBuilderF 185 5 B b (Lib.byteCells (l ++ (xs.take k).flatMap (wordLine kind.data.toList))) wr ∧ StrK wr (.slice p xs.length cap) xs ∧ Below B w wr)) (fun i _ => xs.length - (intOf i).toNat)
  case atStart => exact ⟨0, Nat.zero_le _, rfl, by simpa using hI1, hK, hb1.mono hB⟩
  case round =>
    obtain ⟨k, hk', rfl, HR⟩ := hrel
    obtain ⟨r1, r2, r3⟩ := HR.out
    have hrs := r3.size
    by_cases hlt : k < xs.length
    · obtain ⟨p', cap', hp', hcs⟩ := id r2
      obtain ⟨g, cur, hg, hgb, hgc⟩ := hcs k xs[k] (List.getElem?_eq_getElem hlt)
      obtain ⟨rfl, -, rfl⟩ : p = p' ∧ True ∧ cap = cap' := by simpa using hp'
      subst hg
      have ck : wr.cell? ⟨g, k, none⟩ = some (.string ⟨xs[k].toArray⟩) := by rw [cell_of_heap hgb]; exact hgc
      clear hp' hcs hgb hgc
      have hx8' : (ByteArray.mk xs[k].toArray).size ≤ 8 := hx8 _ (List.getElem_mem hlt)
      have hkx : (kind ++ ⟨xs[k].toArray⟩ : ByteArray).size ≤ 18 := by rw [ByteArray.size_append]; omega
      have HSN : Hid ((xs.take (k + 1)).flatMap (wordLine kind.data.toList) = (xs.take k).flatMap (wordLine kind.data.toList) ++ wordLine kind.data.toList xs[k]) := flatMap_snoc xs k hlt _
      have hpl : ((xs.take k).flatMap (wordLine kind.data.toList)).length ≤ 19 * k := by
        have := wordLines_len kind.data.toList (show kind.data.toList.length ≤ 10 from Array.length_toList ▸ hkd) (xs.take k) (fun s hs => hx8 s (List.mem_of_mem_take hs))
        rw [List.length_take] at this
        omega
      have HWk : Hid (Calls Tryz.prog 96 #[.pointer (some ⟨b, 0, none⟩), .string (kind ++ ⟨xs[k].toArray⟩ ++ ⟨#[10]⟩)] wr fun e w' => (∃ z, e = .returned (.tuple #[.int .i64 z, .nilIface])) ∧ Lib.IsBuilderF 185 5 B b (Lib.byteCells (l ++ (xs.take (k + 1)).flatMap (wordLine kind.data.toList))) w' ∧ StrK w' (.slice (some ⟨g, 0, none⟩) xs.length cap) xs ∧ Below B w w') := by
        have hq : (l ++ (xs.take k).flatMap (wordLine kind.data.toList)).length + (kind ++ ⟨xs[k].toArray⟩ ++ ⟨#[10]⟩ : ByteArray).size ≤ 140737488355328 := by
          rw [ByteArray.size_append, ByteArray.size_append, List.length_append]
          have e3 : (ByteArray.mk #[10]).size = 1 := rfl
          omega
        have hc := HW.out wr (l ++ (xs.take k).flatMap (wordLine kind.data.toList)) (kind ++ ⟨xs[k].toArray⟩ ++ ⟨#[10]⟩) r1 hq (Nat.le_trans hB hrs)
        have hd : (kind ++ ⟨xs[k].toArray⟩ ++ ⟨#[10]⟩ : ByteArray).data.toList = wordLine kind.data.toList xs[k] := by simp [wordLine, ByteArray.data_append]
        generalize (kind ++ ⟨xs[k].toArray⟩ ++ ⟨#[10]⟩ : ByteArray) = kk at *
        refine Calls.mono hc ?_
        rintro e w' ⟨he, g1, g2, g3⟩
        refine ⟨⟨_, he⟩, ?_, r2.kept r1 g3, r3.trans g2⟩
        rw [HSN.out, ← List.append_assoc, ← hd]
        exact g1
      clear r1 r2 r3 HR
      generalize (ByteArray.mk xs[k].toArray) = x at *
      go_wp2_with (go_at_call 96; refine HWk.out.mono ?_; rintro e w2 ⟨⟨z, rfl⟩, g1, g2, g3⟩)
      go_roundw
      case rel => exact ⟨k + 1, by omega, by go_num, g1, g2, g3⟩
      case measure => simp [intOf]; omega
    · have hke : xs.take k = xs := List.take_of_length_le (by omega)
      rw [hke] at r1
      have HF : Hid (Lib.IsBuilderF 185 5 B b (Lib.byteCells (l ++ xs.flatMap (wordLine kind.data.toList))) wr ∧ Below B w wr) := ⟨r1, r3⟩
      clear r1 r2 r3 HR hke
      go_wp2
      go_end0
      exact ⟨rfl, xs, HM.out.2, HM.out.1, hxl, HF.out.1, HF.out.2⟩

end Go.Proofs.YtckmppkdpnhodaaGreatDoor
