/-
  Late: a group whose frames are kept, what each of its calls does. append(l, more...) where more may be empty; Late's kept frames.
-/
import Derived.Test.YtckmppkdpnhodaaGreatDoorT37
import Derived.Deep.AppendLies
namespace Go.Proofs.YtckmppkdpnhodaaGreatDoor
set_option linter.unusedVariables false
set_option linter.unusedSimpArgs false
open Go.RowKit Go.Proofs

/-- The group, and frames that were kept: each bears a letter that may come. k: how often one ticked at the most. -/
def LatS (w0 : World) (n gb pb pc : Nat) (rbs : Nat → Nat) (k done : Nat) (v : Value) (m : Nat) (W : World) : Prop :=
  ∃ S d fl Ls, (∀ i, d.rb i = rbs i) ∧ Grp w0 n 50 1000 S d gb pb pc W ∧ AirRow w0.heap.size n d v fl W ∧ Both FlyR fl Ls ∧ (∀ L ∈ Ls, LtOk n S L) ∧ fl.length = m ∧ totalS n S = done ∧ (∀ j, j < n → (S j).now ≤ k) ∧ W.os = w0.os ∧ W.tape = w0.tape ∧ W.output = w0.output

/-- .. and frames that are told just now. -/
def LatF (w0 : World) (n gb pb pc : Nat) (rbs : Nat → Nat) (k done : Nat) (v : Value) (m : Nat) (v2 : Value) (m2 : Nat) (W : World) : Prop :=
  ∃ S d fl Ls B fl2 Ls2, (∀ i, d.rb i = rbs i) ∧ Grp w0 n 50 1000 S d gb pb pc W ∧ AirRow w0.heap.size n d v fl W ∧ Both FlyR fl Ls ∧ (∀ L ∈ Ls, LtOk n S L) ∧ fl.length = m ∧ totalS n S = done ∧ (∀ j, j < n → (S j).now ≤ k) ∧ W.os = w0.os ∧ W.tape = w0.tape ∧ W.output = w0.output ∧ AirRow B n d v2 fl2 W ∧ w0.heap.size ≤ B ∧ (∀ b, v.ownBlock = some b → b < B) ∧ (∀ o ∈ fl, ∀ b, o.2.2.1.ownBlock = some b → b < B) ∧ Both FlyR fl2 Ls2 ∧ (∀ L ∈ Ls2, LtOk n S L) ∧ fl2.length = m2

/-- All know all; the view is this. -/
def LatC (w0 : World) (n gb pb pc : Nat) (rbs : Nat → Nat) (done : Nat) (v : Value) (m : Nat) (t : Option ByteArray) (W : World) : Prop :=
  ∃ S d fl Ls, (∀ i, d.rb i = rbs i) ∧ Grp w0 n 50 1000 S d gb pb pc W ∧ AirRow w0.heap.size n d v fl W ∧ Both FlyR fl Ls ∧ (∀ L ∈ Ls, LtOk n S L) ∧ fl.length = m ∧ totalS n S = done ∧ AllKnow n S ∧ W.os = w0.os ∧ W.tape = w0.tape ∧ W.output = w0.output ∧ ∀ s, t = some s → TextIs (cartG (S 0).log (S 0).log) s

section
variable {w0 W W' : World} {n gb pb pc : Nat} {rbs : Nat → Nat} {k done m : Nat} {v : Value} {t : Option ByteArray}

theorem LatS.old (h : LatS w0 n gb pb pc rbs k done v m W) : Below w0.heap.size w0 W := by
  obtain ⟨S, d, fl, Ls, hr, hG, -, -, -, -, -, -, h1, h2, h3⟩ := h
  exact ⟨h1, h2, h3, hG.net.size, fun b hb => (hG.net.old b hb).1⟩

theorem LatC.old (h : LatC w0 n gb pb pc rbs done v m t W) : Below w0.heap.size w0 W := by
  obtain ⟨S, d, fl, Ls, hr, hG, -, -, -, -, -, -, h1, h2, h3, -⟩ := h
  exact ⟨h1, h2, h3, hG.net.size, fun b hb => (hG.net.old b hb).1⟩

theorem LatS.n5 (h : LatS w0 n gb pb pc rbs k done v m W) : 2 ≤ n ∧ n ≤ 5 := by
  obtain ⟨S, d, fl, Ls, hr, hG, -⟩ := h
  exact hG.net.fit.n5

theorem LatS.cells (h : LatS w0 n gb pb pc rbs k done v m W) : W.cell? ⟨gb, 0, none⟩ = some (.slice (some ⟨pb, 0, none⟩) n pc) ∧ ∀ i, i < n → W.cell? ⟨pb, i, none⟩ = some (.pointer (some ⟨rbs i, 0, none⟩)) := by
  obtain ⟨S, d, fl, Ls, hr, hG, -⟩ := h
  exact ⟨hG.c0, fun i hi => by rw [← hr i]; exact hG.ptr i hi⟩

theorem LatC.cells (h : LatC w0 n gb pb pc rbs done v m t W) : W.cell? ⟨gb, 0, none⟩ = some (.slice (some ⟨pb, 0, none⟩) n pc) ∧ ∀ i, i < n → W.cell? ⟨pb, i, none⟩ = some (.pointer (some ⟨rbs i, 0, none⟩)) := by
  obtain ⟨S, d, fl, Ls, hr, hG, -⟩ := h
  exact ⟨hG.c0, fun i hi => by rw [← hr i]; exact hG.ptr i hi⟩

theorem LatS.form (h : LatS w0 n gb pb pc rbs k done v m W) : ∃ p c, v = .slice p m c := by
  obtain ⟨S, d, fl, Ls, hr, hG, hA, -, -, rfl, -⟩ := h
  exact own_form hA.row

theorem LatS.below (h : LatS w0 n gb pb pc rbs k done v m W) (hb : Below W.heap.size W W') : LatS w0 n gb pb pc rbs k done v m W' := by
  obtain ⟨S, d, fl, Ls, hr, hG, hA, hB, hL, hm, ht, hn, h1, h2, h3⟩ := h
  exact ⟨S, d, fl, Ls, hr, hG.below hb, hA.below hb, hB, hL, hm, ht, hn, hb.os.trans h1, hb.tape.trans h2, hb.output.trans h3⟩

theorem LatC.below (h : LatC w0 n gb pb pc rbs done v m t W) (hb : Below W.heap.size W W') : LatC w0 n gb pb pc rbs done v m t W' := by
  obtain ⟨S, d, fl, Ls, hr, hG, hA, hB, hL, hm, ht, hn, h1, h2, h3, h4⟩ := h
  exact ⟨S, d, fl, Ls, hr, hG.below hb, hA.below hb, hB, hL, hm, ht, hn, hb.os.trans h1, hb.tape.trans h2, hb.output.trans h3, h4⟩

theorem late_start (h : GrpR w0 n 50 1000 gb pb pc rbs (fun _ => Sr.empty) W) : LatS w0 n gb pb pc rbs 0 0 (.slice none 0 0) 0 W := by
  obtain ⟨d, hr, hG, h1, h2, h3⟩ := h
  exact ⟨_, d, [], [], hr, hG, AirRow.nil _ _ _ _, trivial, by simp, rfl, (Sit.empty n).tot, fun _ _ => Nat.le_refl _, h1, h2, h3⟩

theorem doS_grow (S : Nat → Sr) (i : Nat) (x : En) (j : Nat) : ∃ l, (updS S i (doS n i (S i) x) j).log = (S j).log ++ l := by
  by_cases e : j = i
  · subst e; rw [updS_same]; exact ⟨[x], rfl⟩
  · rw [updS_other _ _ e]; exact ⟨[], by simp⟩

theorem doS_now {S : Nat → Sr} {i : Nat} {x : En} (hn : ∀ j, j < n → (S j).now ≤ k) : ∀ j, j < n → (updS S i (doS n i (S i) x) j).now ≤ k := fun j hj => by
  by_cases e : j = i
  · subst e; rw [updS_same]; exact hn j hj
  · rw [updS_other _ _ e]; exact hn j hj

/-- A command, all ways. -/
theorem late_do (hg : Glob w0) {i : Nat} (hi : i < n) (hd : done < 50) (s : ByteArray) (hs : s.size ≤ 100) {c : Cm} (hr : readC s = some c) (h : LatS w0 n gb pb pc rbs k done v m W) :
    Calls Tryz.prog 20 #[.pointer (some ⟨rbs i, 0, none⟩), .string s] W fun e w' => ∃ z, e = .returned (.int .i64 z) ∧ (z = 0 ∨ z = 3 ∨ z = 4) ∧ LatS w0 n gb pb pc rbs k (if z = 0 then done + 1 else done) v m w' := by
  obtain ⟨S, d, fl, Ls, hrb, hG, hA, hB, hL, hm, ht, hn, h1, h2, h3⟩ := id h
  rw [← hrb i]
  refine (doN hG.net hg hi (by omega) s (by unfold maxLen; omega)).mono ?_
  rintro e w' (⟨q, -⟩ | ⟨c', q, q2, q3, q4⟩ | ⟨c', q, q1, q2, q3, q4⟩ | ⟨x, q1, q2, q3, q4, q5, q6, q7, d', q8, q9⟩)
  · rw [hr] at q; simp at q
  · exact ⟨3, q3, .inr (.inl rfl), h.below q4⟩
  · exact ⟨4, q3, .inr (.inr rfl), h.below q4⟩
  · exact ⟨0, q7, .inl rfl, _, d', fl, Ls, fun j => (q9.rb j).trans (hrb j), hG.step q8 q9, hA.step q9, hB, fun L hL' => hG.net.ok.lt (fun j _ => doS_grow S i x j) (hL L hL'), hm, by rw [totalS_do hi q4, ht]; rfl, doS_now hn, q9.os.trans h1, q9.tape.trans h2, q9.output.trans h3⟩

/-- The first command: it is done. -/
theorem late_do0 (hg : Glob w0) (h : LatS w0 n gb pb pc rbs 0 0 v m W) (s : ByteArray) (hs : s.size ≤ 100) {c : Cm} (hr : readC s = some c) (hgo : ∀ C, goesB C c = true) (h0 : ∃ S d fl Ls, (∀ i, d.rb i = rbs i) ∧ Grp w0 n 50 1000 S d gb pb pc W ∧ AirRow w0.heap.size n d v fl W ∧ Both FlyR fl Ls ∧ (∀ L ∈ Ls, LtOk n S L) ∧ fl.length = m ∧ totalS n S = 0 ∧ (∀ j, j < n → (S j).now ≤ 0) ∧ (S 0).its = [] ∧ W.os = w0.os ∧ W.tape = w0.tape ∧ W.output = w0.output) :
    Calls Tryz.prog 20 #[.pointer (some ⟨rbs 0, 0, none⟩), .string s] W fun e w' => e = .returned (.int .i64 0) ∧ LatS w0 n gb pb pc rbs 0 1 v m w' := by
  have hn5 := h.n5
  obtain ⟨S, d, fl, Ls, hrb, hG, hA, hB, hL, hm, ht, hn, hit, h1, h2, h3⟩ := h0
  rw [← hrb 0]
  refine (doN hG.net hg (i := 0) (by omega) (by omega) s (by unfold maxLen; omega)).mono ?_
  rintro e w' (⟨q, -⟩ | ⟨c', q, q2, q3, q4⟩ | ⟨c', q, q1, q2, q3, q4⟩ | ⟨x, q1, q2, q3, q4, q5, q6, q7, d', q8, q9⟩)
  · rw [hr] at q; simp at q
  · rw [hr] at q
    rw [← Option.some.inj q, hgo] at q2; simp at q2
  · rw [hit] at q2; simp [openI, cntI] at q2
  · exact ⟨q7, _, d', fl, Ls, fun j => (q9.rb j).trans (hrb j), hG.step q8 q9, hA.step q9, hB, fun L hL' => hG.net.ok.lt (fun j _ => doS_grow S 0 x j) (hL L hL'), hm, by rw [totalS_do (by omega) q4, ht], doS_now hn, q9.os.trans h1, q9.tape.trans h2, q9.output.trans h3⟩

theorem late_tick {i : Nat} (hi : i < n) (hk : k < 1000) (h : LatS w0 n gb pb pc rbs k done v m W) :
    Calls Tryz.prog 25 #[.pointer (some ⟨rbs i, 0, none⟩)] W fun e w' => e = .returned (.tuple #[]) ∧ LatS w0 n gb pb pc rbs (k + 1) done v m w' := by
  obtain ⟨S, d, fl, Ls, hrb, hG, hA, hB, hL, hm, ht, hn, h1, h2, h3⟩ := h
  rw [← hrb i]
  refine (tickN hG.net hi (by have := hn i hi; omega)).mono ?_
  rintro e w' ⟨he, d', q1, q2⟩
  have hl : ∀ j, (updS S i (tickS (S i)) j).log = (S j).log := fun j => updS_log (s := tickS (S i)) rfl j
  refine ⟨he, _, d', fl, Ls, fun j => (q2.rb j).trans (hrb j), hG.step q1 q2, hA.step q2, hB, fun L hL' => hG.net.ok.lt (fun j _ => ⟨[], by rw [hl]; simp⟩) (hL L hL'), hm, (totalS_same fun j _ => by rw [hl]).trans ht, fun j hj => ?_, q2.os.trans h1, q2.tape.trans h2, q2.output.trans h3⟩
  by_cases e : j = i
  · subst e; rw [updS_same]; have := hn j hj; show (S j).now + 1 ≤ _; omega
  · rw [updS_other _ _ e]; have := hn j hj; omega

theorem late_frames (hg : Glob w0) (h : LatS w0 n gb pb pc rbs k done v m W) :
    Calls Tryz.prog 26 #[.pointer (some ⟨gb, 0, none⟩)] W fun e w' => ∃ p2 m2 c2, e = .returned (.slice p2 m2 c2) ∧ m2 ≤ 325 ∧ LatF w0 n gb pb pc rbs k done v m (.slice p2 m2 c2) m2 w' := by
  obtain ⟨S, d, fl, Ls, hrb, hG, hA, hB, hL, hm, ht, hn, h1, h2, h3⟩ := h
  refine (gframesG hG hg).mono ?_
  rintro e w' ⟨v2, fl2, Ls2, S', d', he, hF, hT, hB2, hl⟩
  obtain ⟨p2, c2, rfl⟩ := own_form hF.air.row
  obtain ⟨hok, hlog⟩ := hT.net hG.net.ok
  have hlt : ∀ L, LtOk n S L → LtOk n S' L := fun L hL' => hG.net.ok.lt (fun j hj => ⟨[], by rw [hlog j hj]; simp⟩) hL'
  refine ⟨p2, fl2.length, c2, he, hl, S', d', fl, Ls, W.heap.size, fl2, Ls2, fun j => (hF.step.rb j).trans (hrb j), hF.grp, hA.step hF.step, hB, fun L hL' => hlt L (hL L hL'), hm, (totalS_same fun j hj => by rw [hlog j hj]).trans ht, fun j hj => by rw [hT.now]; exact hn j hj, hF.step.os.trans h1, hF.step.tape.trans h2, hF.step.output.trans h3, hF.air, hG.net.size, fun b hb => (hA.row.lt b hb).2, fun o ho b hb => ((hA.each o ho).lt b hb).2, hB2, fun L hL' => hlt L (hT.lt hG.net.ok (Nat.le_refl _) L hL').1, rfl⟩

theorem airCells_len (a : List (Nat × Nat × Value × List UInt8)) : (airCells a).length = a.length * 3 := by
  induction a with
  | nil => rfl
  | cons o l ih => simp only [airCells, List.flatMap_cons, List.length_append, List.length_cons, List.length_nil] at ih ⊢; omega

theorem airCells_append (a b : List (Nat × Nat × Value × List UInt8)) : airCells (a ++ b) = airCells a ++ airCells b := by simp [airCells]

theorem late_rounds (hg : Glob w0) (hk : k + 62 ≤ 1000) (h : LatS w0 n gb pb pc rbs k done v m W) :
    Calls Tryz.prog 21 #[.pointer (some ⟨gb, 0, none⟩), .int .i64 62, .bool false, .bool false] W fun e w' => e = .returned (.bool true) ∧ LatC w0 n gb pb pc rbs done v m none w' := by
  have hn5 := h.n5
  obtain ⟨S, d, fl, Ls, hrb, hG, hA, hB, hL, hm, ht, hn, h1, h2, h3⟩ := h
  refine (roundsG hG hg 62 (by omega) (fun i hi => by have := hn i hi; omega) false false).mono ?_
  rintro e w' ⟨he, S', d', r1, r2, r3, r4⟩
  obtain ⟨q1, q2, q3, q4, q5, q6⟩ := r1.rest hn5.2 hG.net.ok (by omega)
  exact ⟨he, S', d', fl, Ls, fun j => (r3.rb j).trans (hrb j), r2, hA.step r3, hB, fun L hL' => hG.net.ok.lt q6 (hL L hL'), hm, by rw [q3, ht], q2, r3.os.trans h1, r3.tape.trans h2, r3.output.trans h3, fun s hs => by simp at hs⟩

theorem late_alike (hg : Glob w0) (h : LatC w0 n gb pb pc rbs done v m t W) :
    Calls Tryz.prog 22 #[.pointer (some ⟨gb, 0, none⟩), .int .i64 (done : Int)] W fun e w' => e = .returned (.bool true) ∧ LatC w0 n gb pb pc rbs done v m t w' := by
  obtain ⟨S, d, fl, Ls, hrb, hG, hA, hB, hL, hm, ht, hn, h1, h2, h3, h4⟩ := id h
  have hn5 := hG.net.fit.n5
  refine (alikeG hG hg done (fun i hi => by rw [hn i hi, ht]) (cartG (S 0).log (S 0).log) fun i hi => cartG_perm (hn.perm hG.net.ok hi (by omega))).mono ?_
  rintro e w' ⟨he, hb⟩
  exact ⟨he, h.below hb⟩

theorem late_view1 (hg : Glob w0) (h : LatC w0 n gb pb pc rbs done v m t W) :
    Calls Tryz.prog 23 #[.pointer (some ⟨rbs 0, 0, none⟩)] W fun e w' => ∃ s, e = .returned (.string s) ∧ LatC w0 n gb pb pc rbs done v m (some s) w' := by
  obtain ⟨S, d, fl, Ls, hrb, hG, hA, hB, hL, hm, ht, hn, h1, h2, h3, h4⟩ := id h
  have hn5 := hG.net.fit.n5
  rw [← hrb 0]
  refine (viewN hG.net hg (i := 0) (by omega)).mono ?_
  rintro e w' ⟨s, he, hs, hb⟩
  exact ⟨s, he, S, d, fl, Ls, hrb, hG.below hb, hA.below hb, hB, hL, hm, ht, hn, hb.os.trans h1, hb.tape.trans h2, hb.output.trans h3, fun s' e => by cases e; exact hs⟩

theorem late_view2 (hg : Glob w0) {s : ByteArray} (h : LatC w0 n gb pb pc rbs done v m (some s) W) :
    Calls Tryz.prog 23 #[.pointer (some ⟨rbs 0, 0, none⟩)] W fun e w' => e = .returned (.string s) ∧ LatC w0 n gb pb pc rbs done v m (some s) w' := by
  obtain ⟨S, d, fl, Ls, hrb, hG, hA, hB, hL, hm, ht, hn, h1, h2, h3, h4⟩ := id h
  have hn5 := hG.net.fit.n5
  rw [← hrb 0]
  refine (viewN hG.net hg (i := 0) (by omega)).mono ?_
  rintro e w' ⟨s', he, hs, hb⟩
  rw [textIs_unique hs (h4 s rfl)] at he
  exact ⟨he, h.below hb⟩

/-- Where all know all, a letter that comes tells nothing. -/
theorem AllKnow.take {S : Nat → Sr} (h : AllKnow n S) (hS : NetOk n S) {L : Lt} (hL : LtOk n S L) : AllKnow n (updS S L.dst (takeS (S L.dst) L)) ∧ totalS n (updS S L.dst (takeS (S L.dst) L)) = totalS n S ∧ ∀ j, j < n → (updS S L.dst (takeS (S L.dst) L) j).log = (S j).log := by
  have ht : totalS n (updS S L.dst (takeS (S L.dst) L)) = totalS n S := totalS_same fun j _ => take_own hL j
  have hl : ∀ j, j < n → (updS S L.dst (takeS (S L.dst) L) j).log = (S j).log := fun j hj => by
    obtain ⟨l, hl⟩ := take_grow S L j
    have h1 := (hS.take hL).len_le hj
    have h2 := h j hj
    rw [ht, hl, List.length_append] at h1
    have : l = [] := List.eq_nil_of_length_eq_zero (by omega)
    rw [hl, this, List.append_nil]
  exact ⟨fun j hj => by rw [hl j hj, ht]; exact h j hj, ht, hl⟩

/-- A kept frame comes. -/
theorem late_come (hg : Glob w0) {p : Option Addr} {c : Nat} (h : LatC w0 n gb pb pc rbs done (.slice p m c) m t W) {j : Nat} (hj : j < m) :
    ∃ b x y q l cq, p = some ⟨b, 0, none⟩ ∧ W.cell? ⟨b, j * 3, none⟩ = some (.int .i64 x) ∧ W.cell? ⟨b, j * 3 + 1, none⟩ = some (.int .i64 y) ∧ W.cell? ⟨b, j * 3 + 2, none⟩ = some (.slice q l cq) ∧
      ∀ W', Below W.heap.size W W' → Calls Tryz.prog 27 #[.pointer (some ⟨gb, 0, none⟩), .agg #[.int .i64 x, .int .i64 y, .slice q l cq]] W' fun e w' => e = .returned (.bool true) ∧ LatC w0 n gb pb pc rbs done (.slice p m c) m t w' := by
  obtain ⟨S, d, fl, Ls, hrb, hG, hA, hB, hL, hm, ht, hn, h1, h2, h3, h4⟩ := h
  have hjf : j < fl.length := by omega
  have hjl : j < Ls.length := by rw [← hB.len]; exact hjf
  have hmem : fl[j] ∈ fl := List.getElem_mem hjf
  obtain ⟨g, cap, hf, -, hgl⟩ := hA.row.form (by omega)
  simp only [Value.slice.injEq] at hf
  obtain ⟨rfl, -, rfl⟩ := hf
  have he := hA.each _ hmem
  obtain ⟨q, cq, hv⟩ := own_form he
  have cells := airCells_get fl hjf
  rw [hv] at cells
  refine ⟨g, fl[j].1, fl[j].2.1, q, fl[j].2.2.2.length, cq, rfl, ?_, ?_, ?_, fun W' hb => ?_⟩
  · have := hA.row.cells (g := g) rfl (j * 3) _ cells.1
    rwa [Addr.add_mid, Nat.zero_add] at this
  · have := hA.row.cells (g := g) rfl (j * 3 + 1) _ cells.2.1
    rwa [Addr.add_mid, Nat.zero_add] at this
  · have := hA.row.cells (g := g) rfl (j * 3 + 2) _ cells.2.2
    rwa [Addr.add_mid, Nat.zero_add] at this
  · have hR : FlyR fl[j] Ls[j] := hB.get hjf hjl
    have hLj := hL _ (List.getElem_mem hjl)
    have hok := ((okB_iff _).1 hR.2.2.ok).1
    obtain ⟨z, cz, hf, -, hzl⟩ := he.form (by omega)
    rw [hv] at hf
    simp only [Value.slice.injEq, true_and] at hf
    obtain ⟨rfl, rfl⟩ := hf
    have hby := bytes_of_own he
    rw [hv] at hby
    have hcc : fl[j].2.2.2.length ≤ cq ∧ cq ≤ 9223372036854775807 := by
      rcases he.2 with ⟨e1, -⟩ | ⟨g', c', cur, e1, -, -, e2, e3, -⟩
      · rw [hv] at e1; simp at e1
      · rw [hv] at e1
        simp at e1
        obtain ⟨-, rfl⟩ := e1
        unfold maxLen at e3
        exact ⟨e2, by omega⟩
    rw [hR.1, hR.2.1]
    refine (comeG (hG.below hb) hg hLj hR.2.2 hcc.1 hcc.2 (Nat.lt_of_lt_of_le hzl hb.size) (hA.efar _ hmem z (by rw [hv]; rfl)) (bytes_below hby hb)).mono ?_
    rintro e w' ⟨rfl, d', hg', hst⟩
    obtain ⟨k1, k2, k3⟩ := hn.take hG.net.ok hLj
    have hn5 := hG.net.fit.n5
    refine ⟨rfl, _, d', fl, Ls, fun i => (hst.rb i).trans (hrb i), hg', (hA.below hb).step hst, hB, fun L hL' => hG.net.ok.lt (fun i hi => ⟨[], by rw [k3 i hi]; simp⟩) (hL L hL'), hm, by rw [k2, ht], k1, hst.os.trans (hb.os.trans h1), hst.tape.trans (hb.tape.trans h2), hst.output.trans (hb.output.trans h3), fun s hs => ?_⟩
    rw [k3 0 (by omega)]
    exact h4 s hs

/-- The told frames are kept. -/
theorem late_kept {p2 : Option Addr} {m2 c2 : Nat} (h : LatF w0 n gb pb pc rbs k done v m (.slice p2 m2 c2) m2 W) :
    ∃ xs, W.ownsRow w0.heap.size 59 3 v m xs ∧ (m2 = 0 → LatS w0 n gb pb pc rbs k done v m W) ∧ (0 < m2 → ∃ b news, p2 = some ⟨b, 0, none⟩ ∧ news.length = m2 * 3 ∧ (∀ W', Below W.heap.size W W' → ∀ j u, news[j]? = some u → W'.cell? ((⟨b, 0, none⟩ : Addr).add j) = some u) ∧ (∀ u ∈ news, u.oneCell' = true) ∧ ∀ W' g cap w5, Below W.heap.size W W' → w5.ownsRow w0.heap.size 59 3 (.slice (some ⟨g, 0, none⟩) (m + m2) cap) (m + m2) (xs ++ news) → W'.grownBy w5 v.ownBlock → (v.ownBlock = some g ∨ g = W'.heap.size) → LatS w0 n gb pb pc rbs k done (.slice (some ⟨g, 0, none⟩) (m + m2) cap) (m + m2) w5) := by
  obtain ⟨S, d, fl, Ls, B, fl2, Ls2, hrb, hG, hA, hB, hL, rfl, ht, hn, h1, h2, h3, hA2, hBw, hvB, heB, hB2, hL2, rfl⟩ := h
  refine ⟨airCells fl, hA.row, fun _ => ⟨S, d, fl, Ls, hrb, hG, hA, hB, hL, rfl, ht, hn, h1, h2, h3⟩, fun hpos => ?_⟩
  obtain ⟨g2, cap2, hf2, -, hgl2⟩ := hA2.row.form hpos
  simp only [Value.slice.injEq, true_and] at hf2
  obtain ⟨rfl, rfl⟩ := hf2
  refine ⟨g2, airCells fl2, rfl, ?_, fun W' hb j u hu => ?_, fun u hu => ?_, fun W' g cap w5 hb ho hgr hat => ?_⟩
  · exact airCells_len fl2
  · exact cell_below hb (hA2.row.cells (g := g2) rfl j u hu)
  · obtain ⟨o, ho, hu⟩ := List.mem_flatMap.1 hu
    obtain ⟨q, cq, hv⟩ := own_form (hA2.each o ho)
    rw [hv] at hu
    simp only [List.mem_cons, List.not_mem_nil, or_false] at hu
    rcases hu with rfl | rfl | rfl <;> rfl
  · have hu : Upd [v.ownBlock] W w5 := (Upd.of_below hb).grown hgr fun b hb => .inl (by simp [hb])
    have hX : ∀ b, some b ∈ [v.ownBlock] → v.ownBlock = some b := fun b hb => (List.mem_singleton.1 hb).symm
    have hge : ∀ b, v.ownBlock = some b → w0.heap.size ≤ b := fun b hb => own_ge hA.row hb
    have hnew : v.ownBlock = some g ∨ W.heap.size ≤ g := hat.imp id fun e => by have := hb.size; omega
    refine ⟨S, d, fl ++ fl2, Ls ++ Ls2, hrb, hG.keep hu fun b hb => ⟨hge b (hX b hb), hA.far b (hX b hb), fun e => ?_, fun e => ?_⟩, ⟨by rw [List.length_append, airCells_append]; exact ho, fun x hx => ?_, fun b hb => ?_, fun x hx => ?_⟩, hB.append hB2, fun L hL' => ?_, by rw [List.length_append], ht, hn, hu.os.trans h1, hu.tape.trans h2, hu.output.trans h3⟩
    · exact tag_blk hA.row hG.grp (by decide) (by rw [← e]; exact hX b hb)
    · obtain ⟨C, hC⟩ := hG.pblk
      exact tag_blk hA.row hC (by decide) (by rw [← e]; exact hX b hb)
    · have hrow : W.ownsRow w0.heap.size 5 1 x.2.2.1 x.2.2.2.length (Lib.byteCells x.2.2.2) := by
        rcases List.mem_append.1 hx with hx | hx
        · exact hA.each x hx
        · exact owns_base (hA2.each x hx) hBw
      exact hu.owns hrow fun b hb hm => tag_ne hrow hA.row (by decide) hb (hX b hm)
    · have hbg : b = g := by cases hb; rfl
      subst hbg
      rcases hnew with e | e
      · exact hA.far b e
      · exact hG.net.m.new e
    · rcases List.mem_append.1 hx with hx | hx
      · exact hA.efar x hx
      · exact hA2.efar x hx
    · rcases List.mem_append.1 hL' with q | q
      · exact hL L q
      · exact hL2 L q

end

end Go.Proofs.YtckmppkdpnhodaaGreatDoor

namespace Go.Proofs.YtckmppkdpnhodaaGreatDoor
set_option linter.unusedVariables false
set_option linter.unusedSimpArgs false
open Go.RowKit Go.Proofs

theorem run_append_empty {P : Program} {w : World} (base : Nat) (t ty e : TypeId) (i : TypeInfo) (size : Nat) (ht : P.underlying t = some (.slice e)) (hi : P.info? e = some i)
    (v : Value) (n : Nat) (xs : List Value) (hown : w.ownsRow base e size v n xs) (p : Option Addr) (c : Nat) :
    (Builtin.append_ #[t, t] ty #[v, .slice p 0 c]).run P w = .ok v w := by
  rcases hown.2 with ⟨rfl, rfl⟩ | ⟨g, cap, cur, rfl, _, _, hnc, _⟩ <;> cases p
  · simp [Builtin.append_, run_underlying ht, sizeOf, typeInfo, hi, Builtin.lenOf, Builtin.firstCells]
  · simp [Builtin.append_, run_underlying ht, sizeOf, typeInfo, hi, Builtin.lenOf, Builtin.firstCells, loadCells, loadCellsFrom]
  · simp [Builtin.append_, run_underlying ht, sizeOf, typeInfo, hi, Builtin.lenOf, Builtin.firstCells, hnc, storeCells]
  · simp [Builtin.append_, run_underlying ht, sizeOf, typeInfo, hi, Builtin.lenOf, Builtin.firstCells, hnc, storeCells, loadCells, loadCellsFrom]

/-- A row is appended to a row, be it empty or not; what holds behind it is the same. -/
theorem wpList_append_row {P : Program} {w : World} {ops : Array Oper} {rest : List Oper} {o : Oper} {a : Act} {Q : Exit → Act → World → Prop} (hgd : o.guard = none) (s x : Operand) (t : TypeId)
    (ho : o.op = .call { callee := .builtin .append, args := #[s, x], argTypes := #[t, t] })
    (base : Nat) (e : TypeId) (i : TypeInfo) (z : Value) (size bytes : Nat) (ht : P.underlying t = some (.slice e)) (hi : P.info? e = some i) (hz : i.zero = some z)
    (hsize : i.size = size) (hby : i.bytes = bytes) (hzs : z.cells.size = size) (hsz : 0 < size)
    (v : Value) (n : Nat) (xs : List Value) (hs : a.eval s = v) (hown : w.ownsRow base e size v n xs) (p2 : Option Addr) (m c : Nat) (hx : a.eval x = .slice p2 m c) (R : Value → World → Prop)
    (h0 : m = 0 → R v w)
    (h1 : 0 < m → ∃ ad news, p2 = some ad ∧ news.length = m * size ∧ (∀ j u, news[j]? = some u → w.cell? (ad.add j) = some u) ∧ (∀ u ∈ news, u.oneCell' = true) ∧ ∀ g cap w', w'.ownsRow base e size (.slice (some ⟨g, 0, none⟩) (n + m) cap) (n + m) (xs ++ news) → w.grownBy w' v.ownBlock → (v.ownBlock = some g ∨ g = w.heap.size) → R (.slice (some ⟨g, 0, none⟩) (n + m) cap) w')
    (h63 : n + m ≤ maxLen) (hbytes : (n + m) * bytes ≤ 140737488355328) (hbase : base ≤ w.heap.size)
    (h : ∀ v' w', R v' w' → wpList P ops Q rest (a.put o.dst v') w') : wpList P ops Q (o :: rest) a w := by
  rcases Nat.eq_zero_or_pos m with rfl | hm
  · refine wpList_plain hgd fun K hK => ?_
    have hrun := run_append_empty (P := P) (w := w) base t o.type e i size ht hi v n xs hown p2 c
    unfold Oper.wp
    simp [execOp, ho, resolve, invoke, builtin, hs, hx, hrun, Result.andThen]
    exact hK _ _ (h v w (h0 rfl))
  · obtain ⟨ad, news, rfl, hl, hn, h1c, hR⟩ := h1 hm
    exact wpList_append_lies w hgd s x t ho base e i z size bytes ht hi hz hsize hby hzs hsz v n xs hs hown ad m c news hx hl hn h1c hm h63 hbytes hbase w.heap.size rfl fun g cap w' a1 a2 a3 _ => h _ _ (hR g cap w' a1 a2 a3)

theorem wrap_bounds (x : Int) : -9223372036854775808 ≤ IntKind.i64.wrap x ∧ IntKind.i64.wrap x ≤ 9223372036854775807 := by
  rw [IntKind.wrap_i64]
  omega

/-- What holds behind the append. -/
def LatN (w0 : World) (n gb pb pc : Nat) (rbs : Nat → Nat) (k done m : Nat) (v : Value) (w : World) : Prop := ∃ p c, v = .slice p m c ∧ Hid (LatS w0 n gb pb pc rbs k done v m w)

section
variable {w0 W : World} {n gb pb pc : Nat} {rbs : Nat → Nat} {k done m : Nat} {v : Value}

theorem late_append {p2 : Option Addr} {m2 c2 : Nat} (h : LatF w0 n gb pb pc rbs k done v m (.slice p2 m2 c2) m2 W) :
    ∃ xs, W.ownsRow w0.heap.size 59 3 v m xs ∧ (m2 = 0 → LatN w0 n gb pb pc rbs k done (m + m2) v W) ∧ (0 < m2 → ∃ ad news, p2 = some ad ∧ news.length = m2 * 3 ∧ (∀ j u, news[j]? = some u → W.cell? (ad.add j) = some u) ∧ (∀ u ∈ news, u.oneCell' = true) ∧ ∀ g cap w5, w5.ownsRow w0.heap.size 59 3 (.slice (some ⟨g, 0, none⟩) (m + m2) cap) (m + m2) (xs ++ news) → W.grownBy w5 v.ownBlock → (v.ownBlock = some g ∨ g = W.heap.size) → LatN w0 n gb pb pc rbs k done (m + m2) (.slice (some ⟨g, 0, none⟩) (m + m2) cap) w5) ∧ w0.heap.size ≤ W.heap.size := by
  obtain ⟨xs, h1, h2, h3⟩ := late_kept h
  refine ⟨xs, h1, fun e => ?_, fun hp => ?_, ?_⟩
  · have := h2 e
    obtain ⟨p, c, hv⟩ := this.form
    subst e
    exact ⟨p, c, hv, this⟩
  · obtain ⟨b, news, a1, a2, a3, a4, a5⟩ := h3 hp
    exact ⟨_, news, a1, a2, fun j u hu => a3 W (Below.refl _ W) j u hu, a4, fun g cap w5 b1 b2 b3 => ⟨_, _, rfl, a5 W g cap w5 (Below.refl _ W) b1 b2 b3⟩⟩
  · obtain ⟨S, d, fl, Ls, B, fl2, Ls2, -, hG, -⟩ := h
    exact hG.net.size

end

end Go.Proofs.YtckmppkdpnhodaaGreatDoor
