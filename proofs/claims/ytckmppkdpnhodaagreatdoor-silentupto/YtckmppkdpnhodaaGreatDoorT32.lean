/-
  What a replica tells, in frames: the letters that they bear. Replicas side by side: what each call does. Replicas side by side: Do.
-/
import Derived.Test.YtckmppkdpnhodaaGreatDoorT20
import Derived.Test.YtckmppkdpnhodaaGreatDoorT31
namespace Go.Proofs.YtckmppkdpnhodaaGreatDoor
set_option linter.unusedVariables false
set_option linter.unusedSimpArgs false
open Go.RowKit Go.Proofs

/-- The frame bears the letter. -/
def Bears (L : Lt) (f : List UInt8) : Prop := Whole f L.src L.dst L.h L.es

/-- Lists that go together, place by place. -/
def Both {α β : Type} (R : α → β → Prop) : List α → List β → Prop
  | [], [] => True
  | a :: aas, b :: bs => R a b ∧ Both R aas bs
  | _, _ => False

theorem Both.append {α β : Type} {R : α → β → Prop} : ∀ {a : List α} {b : List β} {c : List α} {d : List β}, Both R a b → Both R c d → Both R (a ++ c) (b ++ d)
  | [], [], _, _, _, h => h
  | _ :: aas, _ :: bs, _, _, h, k => ⟨h.1, Both.append (a := aas) (b := bs) h.2 k⟩
  | [], _ :: _, _, _, h, _ => h.elim
  | _ :: _, [], _, _, h, _ => h.elim

theorem Both.len {α β : Type} {R : α → β → Prop} : ∀ {a : List α} {b : List β}, Both R a b → a.length = b.length
  | [], [], _ => rfl
  | _ :: aas, _ :: bs, h => by rw [List.length_cons, List.length_cons, Both.len (a := aas) (b := bs) h.2]
  | [], _ :: _, h => h.elim
  | _ :: _, [], h => h.elim

theorem Both.get {α β : Type} {R : α → β → Prop} : ∀ {a : List α} {b : List β}, Both R a b → ∀ {i : Nat} (h1 : i < a.length) (h2 : i < b.length), R a[i] b[i]
  | [], [], _, i, h1, _ => by simp at h1
  | _ :: aas, _ :: bs, h, 0, _, _ => h.1
  | _ :: aas, _ :: bs, h, i + 1, h1, h2 => Both.get (a := aas) (b := bs) h.2 (by simpa using h1) (by simpa using h2)
  | [], _ :: _, h, _, _, _ => h.elim
  | _ :: _, [], h, _, _, _ => h.elim

theorem Both.of_map {α β γ : Type} {R : α → β → Prop} (g : γ → α) {b : List β} : ∀ {c : List γ}, Both R (c.map g) b → Both (fun x y => R (g x) y) c b := by
  induction b with
  | nil => intro c h; cases c with
    | nil => trivial
    | cons _ _ => exact h.elim
  | cons y b ih => intro c h; cases c with
    | nil => exact h.elim
    | cons x c => exact ⟨h.1, ih h.2⟩

theorem both_map {α β γ : Type} {R : α → β → Prop} (f : γ → α) (g : γ → β) : ∀ {l : List γ}, (∀ x ∈ l, R (f x) (g x)) → Both R (l.map f) (l.map g)
  | [], _ => trivial
  | x :: l, h => ⟨h x (by simp), both_map f g (l := l) fun y hy => h y (by simp [hy])⟩

/-- Entries that a replica did, in the bounds of the wire. -/
def EnFit (i : Nat) (x : En) : Prop := x.org = i ∧ x.ah.lt 72057594037927936 ∧ x.seq = x.ah.get x.org + 1 ∧ readC (textOf x.c) = some x.c

theorem mail_lets (i : Nat) (hi : i < 5) (log : List En) (hl : log.length ≤ 4294967296) (D : Nat → List En) : ∀ (ts : List Nat), (∀ t ∈ ts, t < 5 ∧ ∀ x ∈ D t, EnFit i x) →
    ∃ Ls : List Lt, Both (fun (o : Nat × List UInt8) (L : Lt) => o.1 = L.dst ∧ Bears L o.2) (ts.flatMap (mailB i log D)) Ls ∧ (∀ L ∈ Ls, L.src = i ∧ L.dst ∈ ts ∧ L.h = cntL log L.dst ∧ ∀ x ∈ L.es, x ∈ D L.dst) ∧ (∀ t ∈ ts, (∃ L ∈ Ls, L.dst = t) ∧ ∀ x ∈ D t, ∃ L ∈ Ls, L.dst = t ∧ x ∈ L.es)
  | [], _ => ⟨[], trivial, by simp, by simp⟩
  | t :: ts, h => by
    obtain ⟨Ls, h1, h2, h3⟩ := mail_lets i hi log hl D ts fun u hu => h u (by simp [hu])
    have ht := h t (by simp)
    have hcl := cntL_le log t
    obtain ⟨P, p1, p2, p3, p4⟩ := write_pieces i t (h := cntL log t) (by omega) (D t)
    have hmem : ∀ l ∈ P, ∀ x ∈ l, x ∈ D t := fun l hl x hx => by rw [p2]; exact List.mem_flatten.2 ⟨l, hl, hx⟩
    refine ⟨P.map (fun l => (⟨i, t, cntL log t, l⟩ : Lt)) ++ Ls, ?_, fun L hL => ?_, fun u hu => ?_⟩
    · rw [List.flatMap_cons]
      refine Both.append ?_ h1
      unfold mailB
      rw [p1, List.map_map]
      refine both_map _ _ fun l hl => ⟨rfl, ?_⟩
      exact ⟨(p4 l hl).1, hi, ht.1, by show cntL log t < _; omega, (p4 l hl).2, fun x hx => ht.2 x (hmem l hl x hx)⟩
    · rcases List.mem_append.1 hL with hL | hL
      · rw [List.mem_map] at hL
        obtain ⟨l, hl, rfl⟩ := hL
        exact ⟨rfl, by simp, rfl, hmem l hl⟩
      · obtain ⟨q1, q2, q3⟩ := h2 L hL
        exact ⟨q1, by simp [q2], q3⟩
    · have hin : ∀ L ∈ Ls, L ∈ P.map (fun l => (⟨i, t, cntL log t, l⟩ : Lt)) ++ Ls := fun L hL => List.mem_append_right _ hL
      have hnew : (∃ L ∈ P.map (fun l => (⟨i, t, cntL log t, l⟩ : Lt)) ++ Ls, L.dst = t) ∧ ∀ x ∈ D t, ∃ L ∈ P.map (fun l => (⟨i, t, cntL log t, l⟩ : Lt)) ++ Ls, L.dst = t ∧ x ∈ L.es := by
        constructor
        · obtain ⟨l, hl⟩ := List.exists_mem_of_ne_nil _ p3
          exact ⟨_, List.mem_append_left _ (List.mem_map.2 ⟨l, hl, rfl⟩), rfl⟩
        · intro x hx
          rw [p2] at hx
          obtain ⟨l, hl, hxl⟩ := List.mem_flatten.1 hx
          exact ⟨_, List.mem_append_left _ (List.mem_map.2 ⟨l, hl, rfl⟩), rfl, hxl⟩
      rcases List.mem_cons.1 hu with e | hu
      · rw [e]; exact hnew
      · obtain ⟨⟨L, q1, q2⟩, q3⟩ := h3 u hu
        refine ⟨⟨L, hin L q1, q2⟩, fun x hx => ?_⟩
        obtain ⟨L', r1, r2⟩ := q3 x hx
        exact ⟨L', hin L' r1, r2⟩

/-- An own entry's reach is what was known when it was done. -/
theorem LogFrom.own_seq {me : Nat} {log : List En} (h : LogFrom me [] log) {x : En} (hx : x ∈ log) (ho : x.org = me) : x.seq = x.ah.get x.org + 1 ∧ ∀ o, x.ah.get o ≤ cntL log o := by
  obtain ⟨pre, post, rfl⟩ := List.append_of_mem hx
  obtain ⟨⟨h1, h2, h3⟩, -⟩ := h.split
  refine ⟨by rw [h3 ho, reachOf_get]; exact h1, fun o => ?_⟩
  rw [cntL_append]
  have := h2 o
  omega

theorem Rc.lt_of {r : Rc} {m : Nat} (h : ∀ o, r.get o < m) : r.lt m := by
  have h0 := h 0
  have h1 := h 1
  have h2 := h 2
  have h3 := h 3
  have h4 := h 4
  simp [Rc.get] at h0 h1 h2 h3 h4
  exact ⟨h0, h1, h2, h3, h4⟩

/-- What is asked of the replicas' states besides: their commands were read, their numbers are small. -/
structure Fit (n LB NB : Nat) (S : Nat → Sr) : Prop where
  n5 : 2 ≤ n ∧ n ≤ 5
  len : totalS n S ≤ LB
  lb : LB ≤ 4294900000
  now : ∀ i, i < n → (S i).now ≤ NB
  nb : NB ≤ 1000000000000000
  read : ∀ i, i < n → ∀ x ∈ (S i).log, readC (textOf x.c) = some x.c

theorem Fit.log {n LB NB : Nat} {S : Nat → Sr} (h : Fit n LB NB S) (hS : NetOk n S) {i : Nat} (hi : i < n) : (S i).log.length ≤ 4294900000 := Nat.le_trans (hS.len_le hi) (Nat.le_trans h.len h.lb)

theorem Fit.its {n : Nat} {S : Nat → Sr} (hS : NetOk n S) {i : Nat} (hi : i < n) : (S i).its.length ≤ 40 := by
  have h := (hS.one i hi).room
  have e : (S i).its.length = cntI (S i).its 0 + cntI (S i).its 1 + cntI (S i).its 2 + cntI (S i).its 3 + cntI (S i).its 4 := by
    generalize (S i).its = l
    induction l with
    | nil => rfl
    | cons p l ih =>
      have c : ∀ t, cntI (p :: l) t = cntI l t + if p.to = t then 1 else 0 := fun t => by
        unfold cntI
        rw [List.countP_cons]
        by_cases h : p.to = t <;> simp [h]
      rw [c, c, c, c, c, List.length_cons, ih]
      have := p.ht
      rcases (show p.to = 0 ∨ p.to = 1 ∨ p.to = 2 ∨ p.to = 3 ∨ p.to = 4 by omega) with h | h | h | h | h <;> simp [h] <;> omega
  have h0 := h 0
  have h1 := h 1
  have h2 := h 2
  have h3 := h 3
  have h4 := h 4
  omega

theorem Fit.en {n LB NB : Nat} {S : Nat → Sr} (h : Fit n LB NB S) (hS : NetOk n S) {i : Nat} (hi : i < n) {x : En} (hx : x ∈ (S i).log) (ho : x.org = i) : EnFit i x := by
  have hl := h.log hS hi
  obtain ⟨h1, h2⟩ := (hS.one i hi).log.own_seq hx ho
  refine ⟨ho, Rc.lt_of fun o => ?_, h1, h.read i hi x hx⟩
  have := h2 o
  have := cntL_le (S i).log o
  omega

end Go.Proofs.YtckmppkdpnhodaaGreatDoor

namespace Go.Proofs.YtckmppkdpnhodaaGreatDoor
set_option linter.unusedVariables false
set_option linter.unusedSimpArgs false
open Go.RowKit Go.Proofs

/-- What stands of the packages' variables. -/
structure Glob (w0 : World) : Prop where
  verbs : VerbsAt w0
  pow : PowAt w0
  rem : RemAt w0
  g0 : 0 < w0.heap.size
  g1 : 1 < w0.heap.size

structure NetS (w0 : World) (n LB NB : Nat) (S : Nat → Sr) (d : Side) (W : World) : Prop where
  m : NetM W n S d
  ok : NetOk n S
  fit : Fit n LB NB S
  size : w0.heap.size ≤ W.heap.size
  old : ∀ b, b < w0.heap.size → W.heap[b]? = w0.heap[b]? ∧ d.far n b

section
variable {w0 W W' : World} {n LB NB : Nat} {S S' : Nat → Sr} {d d' : Side} {i : Nat}

theorem NetS.stepped (h : NetS w0 n LB NB S d W) {LB' : Nat} (m : NetM W' n S' d') (st : StepM n W d W' d') (ok : NetOk n S') (fit : Fit n LB' NB S') : NetS w0 n LB' NB S' d' W' :=
  ⟨m, ok, fit, Nat.le_trans h.size st.size, fun b hb => ⟨(st.block b (Nat.lt_of_lt_of_le hb h.size) (h.old b hb).2).trans (h.old b hb).1, st.far b (Nat.lt_of_lt_of_le hb h.size) (h.old b hb).2⟩⟩

theorem NetS.below (h : NetS w0 n LB NB S d W) (hb : Below W.heap.size W W') : NetS w0 n LB NB S d W' := h.stepped (h.m.below hb) (StepM.below hb d) h.ok h.fit

theorem NetS.cell (h : NetS w0 n LB NB S d W) {a : Addr} {v : Value} (hc : w0.cell? a = some v) : W.cell? a = some v :=
  (World.cell?_of_block (h.old a.block (World.block_lt_of_cell? w0 a hc)).1).trans hc

theorem NetS.verbs (h : NetS w0 n LB NB S d W) (hg : Glob w0) : VerbsAt W := fun k => h.cell (hg.verbs k)
theorem NetS.rem (h : NetS w0 n LB NB S d W) (hg : Glob w0) : RemAt W := fun j hj => h.cell (hg.rem j hj)
theorem NetS.pow (h : NetS w0 n LB NB S d W) (hg : Glob w0) : PowAt W := by
  have hp := hg.pow
  have hc := Lib.TabIs.cell hp Tryz.gPow 0 (by decide)
  have hb := (h.old _ (World.block_lt_of_cell? w0 _ hc)).1
  unfold PowAt Lib.TabIs World.var? at hp ⊢
  rw [Tryz.gPow] at hp ⊢
  simp only [Option.bind_some] at hp ⊢
  rw [hb]
  exact hp

theorem NetS.g1 (h : NetS w0 n LB NB S d W) (hg : Glob w0) : 1 < W.heap.size := Nat.lt_of_lt_of_le hg.g1 h.size

theorem NetS.rbG (h : NetS w0 n LB NB S d W) (hg : Glob w0) (hi : i < n) : d.rb i ≠ 1 := fun e => (h.old _ hg.g1).2 i hi (.inl e.symm)

theorem NetS.wvG (h : NetS w0 n LB NB S d W) (hg : Glob w0) (hi : i < n) : (d.wv i).ownBlock ≠ some 0 ∧ (d.wv i).ownBlock ≠ some 1 :=
  ⟨fun e => (h.old _ hg.g0).2 i hi (.inr (.inr e)), fun e => (h.old _ hg.g1).2 i hi (.inr (.inr e))⟩

theorem NetS.its (h : NetS w0 n LB NB S d W) (hi : i < n) : (d.its i).length ≤ 40 := by rw [(h.m.perm i hi).length_eq]; exact Fit.its h.ok hi

theorem NetS.cnt (h : NetS w0 n LB NB S d W) (hi : i < n) (t : Nat) : cntI (d.its i) t ≤ 8 := by rw [cntI_perm (h.m.perm i hi)]; exact (h.ok.one i hi).room t

theorem totalS_same {n : Nat} {S S' : Nat → Sr} (h : ∀ i, i < n → ownL i (S' i).log = ownL i (S i).log) : totalS n S' = totalS n S := sumTo_congr fun i hi => by rw [← ownL_length, ← ownL_length, h i hi]

theorem Fit.same {n LB NB : Nat} {S S' : Nat → Sr} (h : Fit n LB NB S) (ho : ∀ i, i < n → ownL i (S' i).log = ownL i (S i).log) (hn : ∀ i, i < n → (S' i).now ≤ NB) (hr : ∀ i, i < n → ∀ x ∈ (S' i).log, ∃ j, j < n ∧ x ∈ (S j).log) : Fit n LB NB S' :=
  ⟨h.n5, by rw [totalS_same ho]; exact h.len, h.lb, hn, h.nb, fun i hi x hx => by obtain ⟨j, hj, hx'⟩ := hr i hi x hx; exact h.read j hj x hx'⟩

theorem updS_log {s : Sr} (hl : s.log = (S i).log) (k : Nat) : (updS S i s k).log = (S k).log := by
  by_cases e : k = i
  · subst e; rw [updS_same]; exact hl
  · rw [updS_other _ _ e]

theorem updS_now {s : Sr} {NB : Nat} (hs : s.now ≤ NB) (h : ∀ k, k < n → (S k).now ≤ NB) : ∀ k, k < n → (updS S i s k).now ≤ NB := fun k hk => by
  by_cases e : k = i
  · subst e; rw [updS_same]; exact hs
  · rw [updS_other _ _ e]; exact h k hk

theorem tickN (h : NetS w0 n LB NB S d W) (hi : i < n) (hnb : (S i).now < NB) :
    Calls Tryz.prog 25 #[.pointer (some ⟨d.rb i, 0, none⟩)] W fun e w' => e = .returned (.tuple #[]) ∧ ∃ d', NetS w0 n LB NB (updS S i (tickS (S i))) d' w' ∧ StepM n W d w' d' := by
  have hnb' := h.fit.nb
  refine (tickR (h.m.rep i hi) (by omega)).mono ?_
  rintro e w' ⟨rfl, hr, hu⟩
  obtain ⟨hm, hst⟩ := h.m.step (s' := tickS (S i)) (its' := d.its i) hi (hu.mono fun k hk => by simp at hk; simp [hk]) hr (h.m.perm i hi) (fun b hb => .inl hb) fun b hb => .inl hb
  refine ⟨rfl, _, h.stepped hm hst (h.ok.tick1 i) (h.fit.same (fun k _ => by rw [updS_log (s := tickS (S i)) rfl]) (updS_now hnb h.fit.now) fun k hk x hx => ⟨k, hk, ?_⟩), hst⟩
  rwa [updS_log (s := tickS (S i)) rfl] at hx

theorem viewN (h : NetS w0 n LB NB S d W) (hg : Glob w0) (hi : i < n) :
    Calls Tryz.prog 23 #[.pointer (some ⟨d.rb i, 0, none⟩)] W fun e w' => ∃ s, e = .returned (.string s) ∧ TextIs (cartG (S i).log (S i).log) s ∧ Below W.heap.size W w' :=
  viewR (h.verbs hg) (h.pow hg) (h.m.rep i hi) (by have := h.fit.log h.ok hi; omega)

theorem knownN (h : NetS w0 n LB NB S d W) (hg : Glob w0) (hi : i < n) :
    Calls Tryz.prog 28 #[.pointer (some ⟨d.rb i, 0, none⟩)] W fun e w' => ∃ p cap, e = .returned (.slice p (S i).log.length cap) ∧ w'.ownsRow W.heap.size 68 3 (.slice p (S i).log.length cap) (S i).log.length (opsRow (S i).log) ∧ Below W.heap.size W w' :=
  knownR (h.verbs hg) (h.m.rep i hi) (by have := h.fit.log h.ok hi; omega)

/-- Frames: each bears a letter that the replica tells. -/
theorem framesN (h : NetS w0 n LB NB S d W) (hg : Glob w0) (hi : i < n) :
    Calls Tryz.prog 29 #[.pointer (some ⟨d.rb i, 0, none⟩)] W fun e w' => ∃ fv os Ls s' d', e = .returned fv ∧ OutRow W.heap.size fv os w' ∧ os.length ≤ 65 ∧ Both (fun (o : Nat × Value × List UInt8) (L : Lt) => o.1 = L.dst ∧ Bears L o.2.2) os Ls ∧ FramesTo n i (S i) s' Ls ∧ NetS w0 n LB NB (updS S i s') d' w' ∧ StepM n W d w' d' ∧ (∀ b, fv.ownBlock = some b → d'.far n b) ∧ ∀ o ∈ os, ∀ b, o.2.1.ownBlock = some b → d'.far n b := by
  have hn5 := h.fit.n5.2
  have hll := h.fit.log h.ok hi
  have hnb := h.fit.now i hi
  have hnb' := h.fit.nb
  have hpm := h.m.perm i hi
  refine (framesR (h.verbs hg) (h.rem hg) (h.g1 hg) (h.rbG hg hi) (h.wvG hg hi) (h.m.rep i hi) (by omega) (by omega) (by have := h.its hi; omega) (fun t => Nat.le_trans (h.cnt hi t) (by omega)) (by omega)).mono ?_
  rintro e w' ⟨fv, os, D, its, wv, rfl, hout, hmap, hrep, hits, hwv, hdue, hlen12, hupd⟩
  have hol : os.length ≤ 65 := by
    have h1 := congrArg List.length hmap
    rw [List.length_map] at h1
    have h2 := mailB_len i (S i).log D (mailTo D (S i).owed 5) fun t ht => hlen12 t (by
      simp only [mailTo, List.mem_filter, List.mem_range] at ht
      exact ht.1)
    have h3 := mailTo_le D (S i).owed 5
    omega
  have hD : ∀ t x, t < 5 → x ∈ D t → x ∈ waitL (S i).its t := fun t x ht hx => by
    obtain ⟨p, hp, -, h1, h2⟩ := (hdue t x ht).1 hx
    exact mem_waitL.2 ⟨p, hpm.mem_iff.1 hp, h1, h2⟩
  have hts : ∀ t ∈ mailTo D (S i).owed 5, t < 5 ∧ (0 < (D t).length ∨ (S i).owed t = true) := fun t ht => by
    simp only [mailTo, List.mem_filter, List.mem_range, Bool.or_eq_true, decide_eq_true_eq] at ht
    exact ht
  have hin : ∀ t, t < 5 → (0 < (D t).length ∨ (S i).owed t = true) → t ∈ mailTo D (S i).owed 5 := fun t ht h => by
    simp only [mailTo, List.mem_filter, List.mem_range, Bool.or_eq_true, decide_eq_true_eq]
    exact ⟨ht, h⟩
  obtain ⟨Ls, l1, l2, l3⟩ := mail_lets i (by omega) (S i).log (by omega) D (mailTo D (S i).owed 5) fun t ht => ⟨(hts t ht).1, fun x hx => by
    obtain ⟨h1, h2⟩ := h.ok.wait_mem hi (hD t x (hts t ht).1 hx)
    exact h.fit.en h.ok hi h1 h2⟩
  rw [← hmap] at l1
  have hdst : ∀ t ∈ mailTo D (S i).owed 5, t < n ∧ t ≠ i := fun t ht => by
    rcases (hts t ht).2 with hp | hp
    · obtain ⟨x, hx⟩ := List.exists_mem_of_length_pos hp
      obtain ⟨p, hpi, h1, -⟩ := mem_waitL.1 (hD t x (hts t ht).1 hx)
      have := (h.ok.one i hi).to p hpi
      rw [h1] at this
      exact ⟨this.1, this.2.1⟩
    · exact (h.ok.one i hi).owe t hp
  have hF : FramesTo n i (S i) ⟨(S i).log, (S i).now, (S i).its.map (laterI (S i).now), fun _ => false⟩ Ls := by
    refine ⟨rfl, rfl, List.Perm.refl _, fun _ => rfl, fun L hL => ?_, fun p hp hd => ?_, fun j hj => ?_⟩
    · obtain ⟨q1, q2, q3, q4⟩ := l2 L hL
      have hd := hdst _ q2
      exact ⟨q1, hd.1, hd.2, q3, fun x hx => hD _ x (hts _ q2).1 (q4 x hx)⟩
    · have hx : p.en ∈ D p.to := (hdue p.to p.en p.ht).2 ⟨p, hpm.mem_iff.2 hp, hd, rfl, rfl⟩
      exact (l3 p.to (hin _ p.ht (.inl (List.length_pos_of_mem hx)))).2 p.en hx
    · have := (h.ok.one i hi).owe j hj
      exact (l3 j (hin j (by omega) (.inr hj))).1
  obtain ⟨hm, hst⟩ := h.m.step (s' := ⟨(S i).log, (S i).now, (S i).its.map (laterI (S i).now), fun _ => false⟩) hi (hupd.mono fun k hk => by
    simp only [List.mem_cons, List.not_mem_nil, or_false] at hk ⊢
    rcases hk with e | e
    · exact .inl e
    · exact .inr (.inr e)) hrep (hits.trans (hpm.map _)) (fun b hb => .inl hb) fun b hb => (hwv b hb).1
  have hfar : ∀ b, W.heap.size ≤ b → (∀ b', wv.ownBlock = some b' → b ≠ b') → (d.upd i (d.ev i) wv its).far n b := fun b hb hne j hj hf => by
    by_cases e : j = i
    · subst e
      simp only [Side.foot, Side.upd, if_pos] at hf
      rcases hf with hf | hf | hf
      · have := (h.m.rep j hj).lt; omega
      · have := ((h.m.rep j hj).erow.lt b hf).2; omega
      · exact hne b hf rfl
    · simp only [Side.foot, Side.upd, if_neg e] at hf
      have := h.m.lt hj hf; omega
  refine ⟨fv, os, Ls, _, _, rfl, hout, hol, Both.of_map (fun o : Nat × Value × List UInt8 => (o.1, o.2.2)) l1, hF, h.stepped hm hst (h.ok.frames hi hF) (h.fit.same (fun k _ => by rw [updS_log (s := ⟨(S i).log, (S i).now, (S i).its.map (laterI (S i).now), fun _ => false⟩) rfl]) (updS_now hnb h.fit.now) fun k hk x hx => ⟨k, hk, ?_⟩), hst, fun b hb => hfar b (own_ge hout.row hb) fun b' hb' e => (hwv b' hb').2.1 (by rw [hb, e]), fun o ho b hb => hfar b (own_ge (hout.each o ho) hb) fun b' hb' e => (hwv b' hb').2.2 o ho (by rw [hb, e])⟩
  rwa [updS_log (s := ⟨(S i).log, (S i).now, (S i).its.map (laterI (S i).now), fun _ => false⟩) rfl] at hx

/-- A frame that bears a letter comes to the one that it was written to. -/
theorem receiveN (h : NetS w0 n LB NB S d W) (hg : Glob w0) {L : Lt} (hL : LtOk n S L) {z off c : Nat} {f : List UInt8} (hf : Bears L f) (hc : f.length ≤ c) (hc9 : c ≤ 9223372036854775807) (hz : z < W.heap.size) (hzf : d.far n z) (hb : BytesAt W (.slice (some ⟨z, off, none⟩) f.length c) f) :
    Calls Tryz.prog 30 #[.pointer (some ⟨d.rb L.dst, 0, none⟩), .int .i64 (L.src : Int), .slice (some ⟨z, off, none⟩) f.length c] W fun e w' => e = .returned (.tuple #[]) ∧ ∃ d', NetS w0 n LB NB (updS S L.dst (takeS (S L.dst) L)) d' w' ∧ StepM n W d w' d' := by
  have hn5 := h.fit.n5.2
  have hi := hL.dst
  have hll := h.fit.log h.ok hi
  have hcnt := h.ok.cnt_le hi hL.src
  have hmy : isMy n L.dst (S L.dst).log L.src L.dst L.h (L.src : Int) = true := by
    unfold isMy
    rw [decide_eq_true_eq]
    have h1 := hL.h
    have h2 := hL.ne
    have h3 := hL.src
    exact ⟨rfl, by omega, by omega, rfl, by omega⟩
  refine (receiveR_ok (h.verbs hg) (h.rem hg) (h.g1 hg) (h.rbG hg hi) (h.m.rep _ hi) (by omega) (by omega) (by have := h.its hi; omega) z off c f hc hc9 (fun e => hzf _ hi (.inl e)) hz hb hf hmy).mono ?_
  rintro e w' ⟨rfl, ev', wv', its', hr, hp, he, hw, hu⟩
  obtain ⟨hm, hst⟩ := h.m.step (s' := takeS (S L.dst) L) hi hu hr (hp.trans ((h.m.perm _ hi).filter _)) he fun b hb => .inl (by rw [← hw]; exact hb)
  have hgrow : ∀ k, ∃ l, (updS S L.dst (takeS (S L.dst) L) k).log = (S k).log ++ l := fun k => take_grow S L k
  refine ⟨rfl, _, h.stepped hm hst (h.ok.take hL) (h.fit.same (fun k _ => take_own hL k) (updS_now (h.fit.now _ hi) h.fit.now) fun k hk x hx => ?_), hst⟩
  by_cases e : k = L.dst
  · rw [e, updS_same] at hx
    rcases learnAll_mem hx with q | q
    · exact ⟨_, hi, q⟩
    · exact ⟨L.src, hL.src, (hL.es x q).1⟩
  · rw [updS_other _ _ e] at hx
    exact ⟨k, hk, hx⟩

end

end Go.Proofs.YtckmppkdpnhodaaGreatDoor

namespace Go.Proofs.YtckmppkdpnhodaaGreatDoor
set_option linter.unusedVariables false
set_option linter.unusedSimpArgs false
open Go.RowKit Go.Proofs

/-- The entry of a command that is done. -/
theorem mkEn (i : Nat) (hi : i < 5) (log : List En) (hl : log.length ≤ 4294967296) (c : Cm) (hc : CmOk c) : ∃ x : En, x.org = i ∧ x.seq = cntL log i + 1 ∧ x.ah = reachOf log ∧ x.c = c :=
  ⟨⟨i, cntL log i + 1, reachOf log, c, hi, by have := cntL_le log i; omega, Rc.lt_of fun o => by rw [reachOf_get]; have := cntL_le log o; omega, hc⟩, rfl, rfl, rfl, rfl⟩

/-- The state behind a command that was done. -/
def doS (n i : Nat) (s : Sr) (x : En) : Sr := ⟨s.log ++ [x], s.now, s.its ++ newIts i s.now x n, s.owed⟩

theorem waitL_append (a b : List It) (j : Nat) : waitL (a ++ b) j = waitL a j ++ waitL b j := by simp [waitL]

theorem openI_lt {its : List It} (h : openI its < 8) (t : Nat) : cntI its t < 8 := by
  by_cases ht : t < 5
  · unfold openI at h
    rcases (show t = 0 ∨ t = 1 ∨ t = 2 ∨ t = 3 ∨ t = 4 by omega) with rfl | rfl | rfl | rfl | rfl <;> omega
  · have : cntI its t = 0 := by
      unfold cntI
      rw [List.countP_eq_zero]
      intro p _ e
      have := p.ht
      simp at e
      omega
    omega

section
variable {w0 W W' : World} {n LB NB : Nat} {S S' : Nat → Sr} {d d' : Side} {i : Nat}

theorem totalS_do (hi : i < n) {x : En} (hx : x.org = i) : totalS n (updS S i (doS n i (S i) x)) = totalS n S + 1 := by
  have e : totalS n (updS S i (doS n i (S i) x)) = sumTo n (fun k => cntL (S k).log k + if i = k then 1 else 0) := sumTo_congr fun k hk => by
    by_cases e : k = i
    · subst e; rw [updS_same]; show cntL ((S k).log ++ [x]) k = _; rw [cntL_snoc, if_pos hx, if_pos rfl]
    · rw [updS_other _ _ e, if_neg (Ne.symm e)]; rfl
  rw [e, sumTo_add, sumTo_one n i hi]
  rfl

theorem doN_ok_net (h : NetS w0 n LB NB S d W) (hi : i < n) (hLB : totalS n S < LB) {x : En} (hxo : x.org = i) (hxs : x.seq = cntL (S i).log i + 1) (hxa : x.ah = reachOf (S i).log) (hr : readC (textOf x.c) = some x.c) (ho : openI (S i).its < 8) : NetOk n (updS S i (doS n i (S i) x)) ∧ Fit n LB NB (updS S i (doS n i (S i) x)) := by
  have hn5 := h.fit.n5.2
  have hnb := h.fit.now i hi
  have hnb' := h.fit.nb
  have hnow : (S i).now < 1152921504606846976 := by omega
  refine ⟨h.ok.do hi hxo hxs hxa (fun j => openI_lt ho j) (fun p hp => ?_) fun j hj hji => ?_, h.fit.n5, by rw [totalS_do hi hxo]; omega, h.fit.lb, updS_now (s := doS n i (S i) x) hnb h.fit.now, h.fit.nb, fun k hk y hy => ?_⟩
  · rcases List.mem_append.1 hp with hp | hp
    · exact (h.ok.one i hi).to p hp
    · have := newIts_mem hnow hn5 hp
      exact ⟨this.1, this.2.1, by omega⟩
  · rw [waitL_append, newIts_wait hnow hn5 hj hji]
  · by_cases e : k = i
    · subst e
      rw [updS_same] at hy
      rcases List.mem_append.1 hy with q | q
      · exact h.fit.read k hk y q
      · simp at q; subst q; exact hr
    · rw [updS_other _ _ e] at hy
      exact h.fit.read k hk y hy

/-- Do, all ways. -/
theorem doN (h : NetS w0 n LB NB S d W) (hg : Glob w0) (hi : i < n) (hLB : totalS n S < LB) (s : ByteArray) (hs : s.size ≤ maxLen) :
    Calls Tryz.prog 20 #[.pointer (some ⟨d.rb i, 0, none⟩), .string s] W fun e w' =>
      (readC s = none ∧ e = .returned (.int .i64 2) ∧ Below W.heap.size W w') ∨
      (∃ c, readC s = some c ∧ goesB (cartG (S i).log (S i).log) c = false ∧ e = .returned (.int .i64 3) ∧ Below W.heap.size W w') ∨
      (∃ c, readC s = some c ∧ goesB (cartG (S i).log (S i).log) c = true ∧ 8 ≤ openI (S i).its ∧ e = .returned (.int .i64 4) ∧ Below W.heap.size W w') ∨
      (∃ x, readC s = some x.c ∧ goesB (cartG (S i).log (S i).log) x.c = true ∧ openI (S i).its < 8 ∧ x.org = i ∧ x.seq = cntL (S i).log i + 1 ∧ x.ah = reachOf (S i).log ∧ e = .returned (.int .i64 0) ∧ ∃ d', NetS w0 n LB NB (updS S i (doS n i (S i) x)) d' w' ∧ StepM n W d w' d') := by
  have hn5 := h.fit.n5
  have hll := h.fit.log h.ok hi
  have hnb := h.fit.now i hi
  have hnb' := h.fit.nb
  have hop : openI (d.its i) = openI (S i).its := openI_perm (h.m.perm i hi)
  have hil := h.its hi
  cases hr : readC s with
  | none =>
    refine (doR_bad (h.verbs hg) (h.m.rep i hi) s hs hr).mono ?_
    rintro e w' ⟨rfl, hb⟩
    exact .inl ⟨rfl, rfl, hb⟩
  | some c =>
    cases hgo : goesB (cartG (S i).log (S i).log) c with
    | false =>
      refine (doR_unk (h.verbs hg) (h.m.rep i hi) (by omega) s hs c hr hgo).mono ?_
      rintro e w' ⟨rfl, hb⟩
      exact .inr (.inl ⟨c, rfl, hgo, rfl, hb⟩)
    | true =>
      by_cases ho : 8 ≤ openI (S i).its
      · refine (doR_full (h.verbs hg) (h.m.rep i hi) (by omega) (by omega) s hs c hr hgo (by rw [hop]; exact ho)).mono ?_
        rintro e w' ⟨rfl, hb⟩
        exact .inr (.inr (.inl ⟨c, rfl, hgo, ho, rfl, hb⟩))
      · obtain ⟨x, hxo, hxs, hxa, hxc⟩ := mkEn i (by omega) (S i).log (by omega) c (read_parts hr).1
        have ht : readC (textOf x.c) = some x.c := by rw [hxc, (read_parts hr).2]; exact hr
        refine (doR_ok (h.verbs hg) (h.m.rep i hi) hn5 hi (by omega) (by omega) (by omega) s hs x hxo hxs hxa (by rw [hxc]; exact hr) (by rw [hxc]; exact hgo) (by rw [hop]; omega)).mono ?_
        rintro e w' ⟨rfl, hu, ev', wj, its', hq, hp, he, hw⟩
        obtain ⟨hnet, hfit⟩ := doN_ok_net h hi hLB hxo hxs hxa ht (by omega)
        obtain ⟨hm, hst⟩ := h.m.step (s' := doS n i (S i) x) hi hu hq (hp.trans ((h.m.perm i hi).append_right _)) he hw
        exact .inr (.inr (.inr ⟨x, by rw [hxc], by rw [hxc]; exact hgo, by omega, hxo, hxs, hxa, rfl, _, h.stepped hm hst hnet hfit, hst⟩))

end

end Go.Proofs.YtckmppkdpnhodaaGreatDoor
