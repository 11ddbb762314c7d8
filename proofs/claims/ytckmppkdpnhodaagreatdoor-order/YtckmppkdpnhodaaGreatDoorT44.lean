/-
  Order: what each of its calls does. Order: its acts in memory, its last calls.
-/
import Derived.Test.YtckmppkdpnhodaaGreatDoorT43
namespace Go.Proofs.YtckmppkdpnhodaaGreatDoor
set_option linter.unusedVariables false
set_option linter.unusedSimpArgs false
open Go.RowKit Go.Proofs

/-- Both groups between two acts: the clock, how many acts since the last rest, how many commands were done. -/
def OrdS (w0 : World) (n g1 p1 c1 g2 p2 c2 : Nat) (r1 r2 : Nat → Nat) (clock k done : Nat) (w : World) : Prop :=
  ∃ S S2, Duo w0 n 50 1000 g1 p1 c1 g2 p2 c2 r1 r2 S S2 w ∧ Twin n S S2 ∧ totalS n S = done ∧ totalS n S2 = done ∧ (∀ j, j < n → openI (S j).its ≤ k ∧ openI (S2 j).its ≤ k) ∧ ∀ j, j < n → (S j).now = clock ∧ (S2 j).now = clock

/-- What a command's answer tells. -/
def Did (n at_ : Nat) (S : Nat → Sr) (c : Cm) (z : Int) (T : Nat → Sr) : Prop :=
  (z = 3 ∧ goesB (cartG (S at_).log (S at_).log) c = false ∧ T = S) ∨ (z = 0 ∧ goesB (cartG (S at_).log (S at_).log) c = true ∧ ∃ x : En, x.c = c ∧ x.org = at_ ∧ x.seq = cntL (S at_).log at_ + 1 ∧ x.ah = reachOf (S at_).log ∧ T = updS S at_ (doS n at_ (S at_) x))

/-- .. behind the first group's command. -/
def OrdM (w0 : World) (n g1 p1 c1 g2 p2 c2 : Nat) (r1 r2 : Nat → Nat) (clock k done at_ : Nat) (c : Cm) (z : Int) (w : World) : Prop :=
  ∃ S S2 T, Duo w0 n 50 1000 g1 p1 c1 g2 p2 c2 r1 r2 T S2 w ∧ Twin n S S2 ∧ totalS n S = done ∧ totalS n S2 = done ∧ (∀ j, j < n → openI (S j).its ≤ k ∧ openI (S2 j).its ≤ k) ∧ (∀ j, j < n → (S j).now = clock ∧ (S2 j).now = clock) ∧ Did n at_ S c z T

section
variable {w0 W : World} {n g1 p1 c1 g2 p2 c2 : Nat} {r1 r2 : Nat → Nat} {S S2 : Nat → Sr} {clock k done : Nat}

/-- A command in a group where there is room. -/
theorem Duo.did (h : Duo w0 n 50 1000 g1 p1 c1 g2 p2 c2 r1 r2 S S2 W) (hg : Glob w0) {i : Nat} (hi : i < n) (hLB : totalS n S < 50) (s : ByteArray) (hs : s.size ≤ 100) {c : Cm} (hr : readC s = some c) (ho : openI (S i).its < 8) :
    Calls Tryz.prog 20 #[.pointer (some ⟨r1 i, 0, none⟩), .string s] W fun e w' => ∃ z T, e = .returned (.int .i64 z) ∧ (z = 0 ∨ z = 3) ∧ Did n i S c z T ∧ Duo w0 n 50 1000 g1 p1 c1 g2 p2 c2 r1 r2 T S2 w' := by
  refine (h.do hg hi hLB s (by unfold maxLen; omega)).mono ?_
  rintro e w' (⟨q, -⟩ | ⟨c', q, q2, q3, q4⟩ | ⟨c', -, -, q, -⟩ | ⟨x, q1, q2, -, q4, q5, q6, q7, q8⟩)
  · rw [hr] at q; simp at q
  · rw [hr] at q
    obtain rfl := Option.some.inj q
    exact ⟨3, S, q3, .inr rfl, .inl ⟨rfl, q2, rfl⟩, q4⟩
  · omega
  · rw [hr] at q1
    obtain rfl := Option.some.inj q1
    exact ⟨0, _, q7, .inl rfl, .inr ⟨rfl, q2, x, rfl, q4, q5, q6, rfl⟩, q8⟩

theorem ord_do1 (hg : Glob w0) {i : Nat} (hi : i < n) (hk : k < 8) (hd : done < 50) (s : ByteArray) (hs : s.size ≤ 100) {c : Cm} (hr : readC s = some c) (h : OrdS w0 n g1 p1 c1 g2 p2 c2 r1 r2 clock k done W) :
    Calls Tryz.prog 20 #[.pointer (some ⟨r1 i, 0, none⟩), .string s] W fun e w' => ∃ z, e = .returned (.int .i64 z) ∧ (z = 0 ∨ z = 3) ∧ OrdM w0 n g1 p1 c1 g2 p2 c2 r1 r2 clock k done i c z w' := by
  obtain ⟨S, S2, hD, hT, t1, t2, ho, hn⟩ := h
  refine (hD.did hg hi (by omega) s hs hr (by have := (ho i hi).1; omega)).mono ?_
  rintro e w' ⟨z, T, he, hz, hd, hD'⟩
  exact ⟨z, he, hz, S, S2, T, hD', hT, t1, t2, ho, hn, hd⟩

theorem upd_open {S : Nat → Sr} {i : Nat} {x : En} (hn5 : n ≤ 5) (hc : clock ≤ 1000) (ho : ∀ j, j < n → openI (S j).its ≤ k) (hn : ∀ j, j < n → (S j).now = clock) : ∀ j, j < n → openI (updS S i (doS n i (S i) x) j).its ≤ k + 1 ∧ (updS S i (doS n i (S i) x) j).now = clock := fun j hj => by
  by_cases e : j = i
  · subst e
    rw [updS_same]
    have := openI_do (i := j) hn5 (s := S j) x (by rw [hn j hj]; omega)
    have := ho j hj
    exact ⟨by omega, hn j hj⟩
  · rw [updS_other _ _ e]
    have := ho j hj
    exact ⟨by omega, hn j hj⟩

theorem ord_do2 (hg : Glob w0) {i : Nat} (hi : i < n) (hk : k < 8) (hd : done < 50) (hcl : clock ≤ 1000) (s : ByteArray) (hs : s.size ≤ 100) {c : Cm} (hr : readC s = some c) {z : Int} (h : OrdM w0 n g1 p1 c1 g2 p2 c2 r1 r2 clock k done i c z W) :
    Calls Tryz.prog 20 #[.pointer (some ⟨r2 i, 0, none⟩), .string s] W fun e w' => e = .returned (.int .i64 z) ∧ OrdS w0 n g1 p1 c1 g2 p2 c2 r1 r2 clock (k + 1) (if z = 0 then done + 1 else done) w' := by
  obtain ⟨S, S2, T, hD, hT, t1, t2, ho, hn, hdid⟩ := h
  have hn5 := hD.one.n5
  have hcart := hT.cart hi
  refine (hD.swap.did hg hi (by omega) s hs hr (by have := (ho i hi).2; omega)).mono ?_
  rintro e w' ⟨z2, T2, he, -, hd2, hD'⟩
  rcases hdid with ⟨rfl, q1, rfl⟩ | ⟨rfl, q1, x, x1, x2, x3, x4, rfl⟩
  · rcases hd2 with ⟨rfl, -, rfl⟩ | ⟨-, p1, -⟩
    · exact ⟨he, T, T2, hD'.swap, hT, t1, t2, fun j hj => by have := ho j hj; omega, hn⟩
    · rw [← hcart, q1] at p1; simp at p1
  · rcases hd2 with ⟨-, p1, -⟩ | ⟨rfl, -, y, y1, y2, y3, y4, rfl⟩
    · rw [← hcart, q1] at p1; simp at p1
    · have u1 := upd_open (x := x) (i := i) hn5.2 hcl (fun j hj => (ho j hj).1) fun j hj => (hn j hj).1
      have u2 := upd_open (x := y) (i := i) hn5.2 hcl (fun j hj => (ho j hj).2) fun j hj => (hn j hj).2
      exact ⟨he, _, _, hD'.swap, hT.do hi (x1.trans y1.symm) x2 y2 x3 y3 x4 y4, by rw [totalS_do hi x2, t1]; rfl, by rw [totalS_do hi y2, t2]; rfl, fun j hj => ⟨(u1 j hj).1, (u2 j hj).1⟩, fun j hj => ⟨(u1 j hj).2, (u2 j hj).2⟩⟩

/-- .. behind the first group's rest. -/
def OrdR (w0 : World) (n g1 p1 c1 g2 p2 c2 : Nat) (r1 r2 : Nat → Nat) (clock done : Nat) (w : World) : Prop :=
  ∃ S S2 T, Duo w0 n 50 1000 g1 p1 c1 g2 p2 c2 r1 r2 T S2 w ∧ Twin n S S2 ∧ totalS n S2 = done ∧ (∀ j, j < n → (S2 j).now = clock) ∧ NetOk n T ∧ AllKnow n T ∧ totalS n T = done ∧ (∀ j, j < n → (T j).its = []) ∧ (∀ j, j < n → ownL j (T j).log = ownL j (S j).log) ∧ ∀ j, j < n → (T j).now = clock + 62

/-- .. and behind both. -/
def OrdC (w0 : World) (n g1 p1 c1 g2 p2 c2 : Nat) (r1 r2 : Nat → Nat) (clock done : Nat) (w : World) : Prop :=
  ∃ S S2, Duo w0 n 50 1000 g1 p1 c1 g2 p2 c2 r1 r2 S S2 w ∧ Twin n S S2 ∧ totalS n S = done ∧ totalS n S2 = done ∧ AllKnow n S ∧ AllKnow n S2 ∧ (∀ j, j < n → (S j).its = [] ∧ (S2 j).its = []) ∧ ∀ j, j < n → (S j).now = clock ∧ (S2 j).now = clock

theorem ord_rest1 (hg : Glob w0) (hcl : clock + 62 ≤ 1000) (bw tw : Bool) (h : OrdS w0 n g1 p1 c1 g2 p2 c2 r1 r2 clock k done W) :
    Calls Tryz.prog 21 #[.pointer (some ⟨g1, 0, none⟩), .int .i64 62, .bool bw, .bool tw] W fun e w' => e = .returned (.bool true) ∧ OrdR w0 n g1 p1 c1 g2 p2 c2 r1 r2 clock done w' := by
  obtain ⟨S, S2, hD, hT, t1, t2, ho, hn⟩ := h
  refine (hD.rounds hg 62 (by omega) (fun i hi => by rw [(hn i hi).1]; omega) bw tw).mono ?_
  rintro e w' ⟨he, T, h1, h2, h3⟩
  obtain ⟨q1, q2, q3, q4, q5, -⟩ := h1.rest hD.one.n5.2 hD.one.ok (by omega)
  exact ⟨he, S, S2, T, h2, hT, t2, fun j hj => (hn j hj).2, q1, q2, by rw [q3, t1], q4, q5, fun j hj => by rw [h3 j hj, (hn j hj).1]⟩

theorem ord_rest2 (hg : Glob w0) (hcl : clock + 62 ≤ 1000) (bw tw : Bool) (h : OrdR w0 n g1 p1 c1 g2 p2 c2 r1 r2 clock done W) :
    Calls Tryz.prog 21 #[.pointer (some ⟨g2, 0, none⟩), .int .i64 62, .bool bw, .bool tw] W fun e w' => e = .returned (.bool true) ∧ OrdC w0 n g1 p1 c1 g2 p2 c2 r1 r2 (clock + 62) done w' := by
  obtain ⟨S, S2, T, hD, hT, t2, hn2, k1, a1, t1, i1, o1, hn1⟩ := h
  refine (hD.swap.rounds hg 62 (by omega) (fun i hi => by rw [hn2 i hi]; omega) bw tw).mono ?_
  rintro e w' ⟨he, T2, h1, h2, h3⟩
  obtain ⟨q1, q2, q3, q4, q5, -⟩ := h1.rest hD.one.n5.2 hD.swap.one.ok (by omega)
  exact ⟨he, T, T2, h2.swap, hT.rest o1 q5 k1 q1 a1 q2, t1, by rw [q3, t2], a1, q2, fun j hj => ⟨i1 j hj, q4 j hj⟩, fun j hj => ⟨hn1 j hj, by rw [h3 j hj, hn2 j hj]⟩⟩

theorem OrdC.toS (h : OrdC w0 n g1 p1 c1 g2 p2 c2 r1 r2 clock done W) : OrdS w0 n g1 p1 c1 g2 p2 c2 r1 r2 clock 0 done W := by
  obtain ⟨S, S2, hD, hT, t1, t2, a1, a2, hi, hn⟩ := h
  exact ⟨S, S2, hD, hT, t1, t2, fun j hj => by rw [(hi j hj).1, (hi j hj).2]; exact ⟨Nat.le_refl _, Nat.le_refl _⟩, hn⟩

theorem ord_alike1 (hg : Glob w0) (h : OrdC w0 n g1 p1 c1 g2 p2 c2 r1 r2 clock done W) :
    Calls Tryz.prog 22 #[.pointer (some ⟨g1, 0, none⟩), .int .i64 (done : Int)] W fun e w' => e = .returned (.bool true) ∧ OrdC w0 n g1 p1 c1 g2 p2 c2 r1 r2 clock done w' := by
  obtain ⟨S, S2, hD, hT, t1, t2, a1, a2, hi, hn⟩ := h
  have hn5 := hD.one.n5
  refine (hD.alike hg done (fun i hi => by rw [a1 i hi, t1]) (cartG (S 0).log (S 0).log) fun i hi => cartG_perm (a1.perm hD.one.ok hi (by omega))).mono ?_
  rintro e w' ⟨he, hD'⟩
  exact ⟨he, S, S2, hD', hT, t1, t2, a1, a2, hi, hn⟩

theorem OrdC.swap (h : OrdC w0 n g1 p1 c1 g2 p2 c2 r1 r2 clock done W) : OrdC w0 n g2 p2 c2 g1 p1 c1 r2 r1 clock done W := by
  obtain ⟨S, S2, hD, hT, t1, t2, a1, a2, hi, hn⟩ := h
  exact ⟨S2, S, hD.swap, fun i hi => (hT i hi).symm, t2, t1, a2, a1, fun j hj => (hi j hj).symm, fun j hj => (hn j hj).symm⟩

theorem ord_alike2 (hg : Glob w0) (h : OrdC w0 n g1 p1 c1 g2 p2 c2 r1 r2 clock done W) :
    Calls Tryz.prog 22 #[.pointer (some ⟨g2, 0, none⟩), .int .i64 (done : Int)] W fun e w' => e = .returned (.bool true) ∧ OrdC w0 n g1 p1 c1 g2 p2 c2 r1 r2 clock done w' := by
  refine (ord_alike1 hg h.swap).mono ?_
  rintro e w' ⟨he, h'⟩
  exact ⟨he, h'.swap⟩

/-- .. and the first group's view was this. -/
def OrdV (w0 : World) (n g1 p1 c1 g2 p2 c2 : Nat) (r1 r2 : Nat → Nat) (clock done : Nat) (t : ByteArray) (w : World) : Prop :=
  ∃ S S2, Duo w0 n 50 1000 g1 p1 c1 g2 p2 c2 r1 r2 S S2 w ∧ Twin n S S2 ∧ totalS n S = done ∧ totalS n S2 = done ∧ AllKnow n S ∧ AllKnow n S2 ∧ (∀ j, j < n → (S j).its = [] ∧ (S2 j).its = []) ∧ (∀ j, j < n → (S j).now = clock ∧ (S2 j).now = clock) ∧ TextIs (cartG (S 0).log (S 0).log) t

theorem ord_view1 (hg : Glob w0) (h : OrdC w0 n g1 p1 c1 g2 p2 c2 r1 r2 clock done W) :
    Calls Tryz.prog 23 #[.pointer (some ⟨r1 0, 0, none⟩)] W fun e w' => ∃ t, e = .returned (.string t) ∧ OrdV w0 n g1 p1 c1 g2 p2 c2 r1 r2 clock done t w' := by
  obtain ⟨S, S2, hD, hT, t1, t2, a1, a2, hi, hn⟩ := h
  have hn5 := hD.one.n5
  refine (hD.view hg (i := 0) (by omega)).mono ?_
  rintro e w' ⟨t, he, ht, hD'⟩
  exact ⟨t, he, S, S2, hD', hT, t1, t2, a1, a2, hi, hn, ht⟩

theorem ord_view2 (hg : Glob w0) {t : ByteArray} (h : OrdV w0 n g1 p1 c1 g2 p2 c2 r1 r2 clock done t W) :
    Calls Tryz.prog 23 #[.pointer (some ⟨r2 0, 0, none⟩)] W fun e w' => e = .returned (.string t) ∧ OrdC w0 n g1 p1 c1 g2 p2 c2 r1 r2 clock done w' := by
  obtain ⟨S, S2, hD, hT, t1, t2, a1, a2, hi, hn, ht⟩ := h
  have hn5 := hD.one.n5
  refine (hD.swap.view hg (i := 0) (by omega)).mono ?_
  rintro e w' ⟨t', he, ht', hD'⟩
  rw [hT.cart (i := 0) (by omega)] at ht
  rw [textIs_unique ht' ht] at he
  exact ⟨he, S, S2, hD'.swap, hT, t1, t2, a1, a2, hi, hn⟩

end

end Go.Proofs.YtckmppkdpnhodaaGreatDoor

namespace Go.Proofs.YtckmppkdpnhodaaGreatDoor
set_option linter.unusedVariables false
set_option linter.unusedSimpArgs false
open Go.RowKit Go.Proofs

/-- An act as it comes in: at which replica, what, of which word, how many. -/
structure Ac where
  at_ : Int
  what : Int
  word : Int
  count : Int

def I64 (z : Int) : Prop := -9223372036854775808 ≤ z ∧ z ≤ 9223372036854775807
def Ac.ok (o : Ac) : Prop := I64 o.at_ ∧ I64 o.what ∧ I64 o.word ∧ I64 o.count

/-- Acts in memory. -/
def ActsAt (w : World) (p : Option Addr) (sc : List Ac) : Prop :=
  ∀ (i : Nat) (o : Ac), sc[i]? = some o → ∃ b off, p = some ⟨b, off, none⟩ ∧ w.cell? ⟨b, off + i * 4, none⟩ = some (.int .i64 o.at_) ∧ w.cell? ⟨b, off + i * 4 + 1, none⟩ = some (.int .i64 o.what) ∧ w.cell? ⟨b, off + i * 4 + 2, none⟩ = some (.int .i64 o.word) ∧ w.cell? ⟨b, off + i * 4 + 3, none⟩ = some (.int .i64 o.count)

theorem ActsAt.below {w w' : World} {p : Option Addr} {sc : List Ac} (h : ActsAt w p sc) (hb : Below w.heap.size w w') : ActsAt w' p sc := fun i o ho => by
  obtain ⟨b, off, hp, c0, c1, c2, c3⟩ := h i o ho
  have hlt : b < w.heap.size := World.block_lt_of_cell? w _ c0
  have key : ∀ (k : Nat) (v : Value), w.cell? ⟨b, k, none⟩ = some v → w'.cell? ⟨b, k, none⟩ = some v := fun k v hv => (World.cell?_of_block (a := ⟨b, k, none⟩) (hb.block b hlt)).trans hv
  exact ⟨b, off, hp, key _ _ c0, key _ _ c1, key _ _ c2, key _ _ c3⟩

section
variable {w0 W : World} {n g1 p1 c1 g2 p2 c2 : Nat} {r1 r2 : Nat → Nat} {clock k done : Nat}

theorem OrdS.old (h : OrdS w0 n g1 p1 c1 g2 p2 c2 r1 r2 clock k done W) : Below w0.heap.size w0 W := by
  obtain ⟨S, S2, hD, -⟩ := h
  exact hD.one.old

theorem OrdS.cells (h : OrdS w0 n g1 p1 c1 g2 p2 c2 r1 r2 clock k done W) : W.cell? ⟨g1, 0, none⟩ = some (.slice (some ⟨p1, 0, none⟩) n c1) ∧ W.cell? ⟨g2, 0, none⟩ = some (.slice (some ⟨p2, 0, none⟩) n c2) ∧ (∀ i, i < n → W.cell? ⟨p1, i, none⟩ = some (.pointer (some ⟨r1 i, 0, none⟩))) ∧ ∀ i, i < n → W.cell? ⟨p2, i, none⟩ = some (.pointer (some ⟨r2 i, 0, none⟩)) := by
  obtain ⟨S, S2, hD, -⟩ := h
  exact ⟨hD.one.c0, hD.swap.one.c0, fun i hi => hD.one.ptr hi, fun i hi => hD.swap.one.ptr hi⟩

theorem OrdS.below {w' : World} (h : OrdS w0 n g1 p1 c1 g2 p2 c2 r1 r2 clock k done W) (hb : Below W.heap.size W w') : OrdS w0 n g1 p1 c1 g2 p2 c2 r1 r2 clock k done w' := by
  obtain ⟨S, S2, hD, h2⟩ := h
  exact ⟨S, S2, hD.below hb, h2⟩

theorem OrdM.below {w' : World} {at_ : Nat} {c : Cm} {z : Int} (h : OrdM w0 n g1 p1 c1 g2 p2 c2 r1 r2 clock k done at_ c z W) (hb : Below W.heap.size W w') : OrdM w0 n g1 p1 c1 g2 p2 c2 r1 r2 clock k done at_ c z w' := by
  obtain ⟨S, S2, T, hD, h2⟩ := h
  exact ⟨S, S2, T, hD.below hb, h2⟩

theorem OrdM.cells {at_ : Nat} {c : Cm} {z : Int} (h : OrdM w0 n g1 p1 c1 g2 p2 c2 r1 r2 clock k done at_ c z W) : W.cell? ⟨g1, 0, none⟩ = some (.slice (some ⟨p1, 0, none⟩) n c1) ∧ W.cell? ⟨g2, 0, none⟩ = some (.slice (some ⟨p2, 0, none⟩) n c2) ∧ (∀ i, i < n → W.cell? ⟨p1, i, none⟩ = some (.pointer (some ⟨r1 i, 0, none⟩))) ∧ (∀ i, i < n → W.cell? ⟨p2, i, none⟩ = some (.pointer (some ⟨r2 i, 0, none⟩))) ∧ Below w0.heap.size w0 W := by
  obtain ⟨S, S2, T, hD, -⟩ := h
  exact ⟨hD.one.c0, hD.swap.one.c0, fun i hi => hD.one.ptr hi, fun i hi => hD.swap.one.ptr hi, hD.one.old⟩

/-- The first group alone, behind the last note. -/
def OrdF (w0 : World) (n g1 p1 c1 : Nat) (r1 : Nat → Nat) (clock done : Nat) (w : World) : Prop := ∃ S, GrpR w0 n 50 1000 g1 p1 c1 r1 S w ∧ totalS n S = done ∧ ∀ j, j < n → (S j).now = clock

def OrdG (w0 : World) (n g1 p1 c1 : Nat) (r1 : Nat → Nat) (done : Nat) (w : World) : Prop := ∃ S, GrpR w0 n 50 1000 g1 p1 c1 r1 S w ∧ totalS n S = done ∧ AllKnow n S

theorem ord_last (hg : Glob w0) (hk : k < 8) (hd : done < 50) (h : OrdS w0 n g1 p1 c1 g2 p2 c2 r1 r2 clock k done W) :
    Calls Tryz.prog 20 #[.pointer (some ⟨r1 0, 0, none⟩), .string ⟨#[110, 111, 116, 101, 32, 122]⟩] W fun e w' => e = .returned (.int .i64 0) ∧ OrdF w0 n g1 p1 c1 r1 clock (done + 1) w' := by
  obtain ⟨S, S2, hD, hT, t1, t2, ho, hn⟩ := h
  have hn5 := hD.one.n5
  refine (hD.one.do hg (i := 0) (by omega) (by omega) _ (by decide +kernel) (c := noteZ) (by kernel_rfl) (by rfl) (by have := (ho 0 (by omega)).1; omega)).mono ?_
  rintro e w' ⟨he, x, q1, q2, q3, q4, q5⟩
  refine ⟨he, _, q5, by rw [totalS_do (by omega) q2, t1], fun j hj => ?_⟩
  by_cases e : j = 0
  · subst e; rw [updS_same]; exact (hn 0 hj).1
  · rw [updS_other _ _ e]; exact (hn j hj).1

theorem ord_lastR (hg : Glob w0) (hcl : clock + 62 ≤ 1000) (bw tw : Bool) (h : OrdF w0 n g1 p1 c1 r1 clock done W) :
    Calls Tryz.prog 21 #[.pointer (some ⟨g1, 0, none⟩), .int .i64 62, .bool bw, .bool tw] W fun e w' => e = .returned (.bool true) ∧ OrdG w0 n g1 p1 c1 r1 done w' := by
  obtain ⟨S, hG, t1, hn⟩ := h
  refine (hG.rounds hg 62 (by omega) (fun i hi => by rw [hn i hi]; omega) bw tw).mono ?_
  rintro e w' ⟨he, T, h1, h2, h3⟩
  obtain ⟨q1, q2, q3, q4, q5, -⟩ := h1.rest hG.n5.2 hG.ok (by omega)
  exact ⟨he, T, h2, by rw [q3, t1], q2⟩

theorem ord_lastA (hg : Glob w0) (h : OrdG w0 n g1 p1 c1 r1 done W) :
    Calls Tryz.prog 22 #[.pointer (some ⟨g1, 0, none⟩), .int .i64 (done : Int)] W fun e w' => e = .returned (.bool true) ∧ Below w0.heap.size w0 w' := by
  obtain ⟨S, hG, t1, a1⟩ := h
  have hn5 := hG.n5
  refine (hG.alike hg done (fun i hi => by rw [a1 i hi, t1]) (cartG (S 0).log (S 0).log) fun i hi => cartG_perm (a1.perm hG.ok hi (by omega))).mono ?_
  rintro e w' ⟨he, h'⟩
  exact ⟨he, h'.old⟩

end

end Go.Proofs.YtckmppkdpnhodaaGreatDoor
