/-
  Silent: one replica that bytes come to. Silent: the group, what each of its calls does.
-/
import Derived.Test.YtckmppkdpnhodaaGreatDoorT38
import Derived.Test.YtckmppkdpnhodaaGreatDoorT34
namespace Go.Proofs.YtckmppkdpnhodaaGreatDoor
set_option linter.unusedVariables false
set_option linter.unusedSimpArgs false
open Go.RowKit Go.Proofs

/-- What stands of the variables, wherever the old memory stands. -/
theorem Glob.at {w0 W : World} (hg : Glob w0) (hb : Below w0.heap.size w0 W) : VerbsAt W ∧ RemAt W ∧ PowAt W ∧ 1 < W.heap.size := by
  have key : ∀ {a : Addr} {v : Value}, w0.cell? a = some v → W.cell? a = some v := fun {a v} h => (World.cell?_of_block (a := a) (hb.block a.block (World.block_lt_of_cell? w0 _ h))).trans h
  refine ⟨fun k => key (hg.verbs k), fun i hi => key (hg.rem i hi), ?_, Nat.lt_of_lt_of_le hg.g1 hb.size⟩
  have hp := hg.pow
  have hc := Lib.TabIs.cell hp Tryz.gPow 0 (by decide)
  have hbb := hb.block _ (World.block_lt_of_cell? w0 _ hc)
  unfold PowAt Lib.TabIs World.var? at hp ⊢
  rw [Tryz.gPow] at hp ⊢
  simp only [Option.bind_some] at hp ⊢
  rw [hbb]
  exact hp

theorem old_upd {w0 W W' : World} (hb : Below w0.heap.size w0 W) {X : List (Option Nat)} (hu : Upd X W W') (hX : ∀ b, some b ∈ X → w0.heap.size ≤ b) : Below w0.heap.size w0 W' :=
  ⟨hu.os.trans hb.os, hu.tape.trans hb.tape, hu.output.trans hb.output, Nat.le_trans hb.size hu.size, fun b hl => (hu.block b (Nat.lt_of_lt_of_le hl hb.size) fun hm => by have := hX b hm; omega).trans (hb.block b hl)⟩

/-- The last replica of a group, as it stands alone. -/
structure OneI (w0 : World) (n gb pb pc rb T L : Nat) (log : List En) (now : Nat) (its : List It) (ow : Nat → Bool) (ev wv : Value) (W : World) : Prop where
  rep : RepQ W rb n (n - 1) 0 log now its ow ev wv
  n5 : 2 ≤ n ∧ n ≤ 5
  len : log.length ≤ L
  now : now ≤ T
  itl : its.length ≤ 40
  cnt : ∀ t, cntI its t ≤ 8
  old : Below w0.heap.size w0 W
  feet : ∀ b, (b = rb ∨ ev.ownBlock = some b ∨ wv.ownBlock = some b) → w0.heap.size ≤ b ∧ b ≠ gb ∧ b ≠ pb
  grp : W.cell? ⟨gb, 0, none⟩ = some (.slice (some ⟨pb, 0, none⟩) n pc)
  ptr : W.cell? ⟨pb, n - 1, none⟩ = some (.pointer (some ⟨rb, 0, none⟩))

def OneR (w0 : World) (n gb pb pc rb T L : Nat) (W : World) : Prop := ∃ log now its ow ev wv, OneI w0 n gb pb pc rb T L log now its ow ev wv W

section
variable {w0 W W' : World} {n gb pb pc rb T T' L L' : Nat} {log log' : List En} {now now' : Nat} {its its' : List It} {ow ow' : Nat → Bool} {ev wv ev' wv' : Value}

theorem OneI.step (h : OneI w0 n gb pb pc rb T L log now its ow ev wv W) {X : List (Option Nat)} (hu : Upd X W W') (hX : ∀ b, some b ∈ X → b = rb ∨ ev.ownBlock = some b ∨ wv.ownBlock = some b) (hr : RepQ W' rb n (n - 1) 0 log' now' its' ow' ev' wv') (hl : log'.length ≤ L') (hn : now' ≤ T') (hi : its'.length ≤ 40) (hc : ∀ t, cntI its' t ≤ 8)
    (he : ∀ b, ev'.ownBlock = some b → ev.ownBlock = some b ∨ W.heap.size ≤ b) (hw : ∀ b, wv'.ownBlock = some b → wv.ownBlock = some b ∨ W.heap.size ≤ b) : OneI w0 n gb pb pc rb T' L' log' now' its' ow' ev' wv' W' := by
  have hgl := World.block_lt_of_cell? W _ h.grp
  have hpl := World.block_lt_of_cell? W _ h.ptr
  have hgl' : gb < W.heap.size := hgl
  have hpl' : pb < W.heap.size := hpl
  have hsz := h.old.size
  refine ⟨hr, h.n5, hl, hn, hi, hc, old_upd h.old hu fun b hb => (h.feet b (hX b hb)).1, fun b hb => ?_, hu.cell h.grp fun hm => (h.feet gb (hX gb hm)).2.1 rfl, hu.cell h.ptr fun hm => (h.feet pb (hX pb hm)).2.2 rfl⟩
  have new : W.heap.size ≤ b → w0.heap.size ≤ b ∧ b ≠ gb ∧ b ≠ pb := fun e => by omega
  rcases hb with hb | hb | hb
  · exact h.feet b (.inl hb)
  · rcases he b hb with e | e
    · exact h.feet b (.inr (.inl e))
    · exact new e
  · rcases hw b hb with e | e
    · exact h.feet b (.inr (.inr e))
    · exact new e

theorem OneI.below (h : OneI w0 n gb pb pc rb T L log now its ow ev wv W) (hb : Below W.heap.size W W') (hL : L ≤ L') : OneI w0 n gb pb pc rb T L' log now its ow ev wv W' :=
  h.step (X := []) (Upd.of_below hb) (by simp) (h.rep.below hb) (Nat.le_trans h.len hL) h.now h.itl h.cnt (fun _ e => .inl e) fun _ e => .inl e

theorem OneR.below (h : OneR w0 n gb pb pc rb T L W) (hb : Below W.heap.size W W') (hL : L ≤ L') : OneR w0 n gb pb pc rb T L' W' := by
  obtain ⟨log, now, its, ow, ev, wv, h⟩ := h
  exact ⟨log, now, its, ow, ev, wv, h.below hb hL⟩

theorem OneR.old (h : OneR w0 n gb pb pc rb T L W) : Below w0.heap.size w0 W := by
  obtain ⟨log, now, its, ow, ev, wv, h⟩ := h
  exact h.old

theorem OneR.cells (h : OneR w0 n gb pb pc rb T L W) : W.cell? ⟨gb, 0, none⟩ = some (.slice (some ⟨pb, 0, none⟩) n pc) ∧ W.cell? ⟨pb, n - 1, none⟩ = some (.pointer (some ⟨rb, 0, none⟩)) := by
  obtain ⟨log, now, its, ow, ev, wv, h⟩ := h
  exact ⟨h.grp, h.ptr⟩

/-- Bytes that came in stand. -/
theorem bytes_old {p : Option Addr} {c : Nat} {f : List UInt8} (h : BytesAt w0 (.slice p f.length c) f) (hb : Below w0.heap.size w0 W) : BytesAt W (.slice p f.length c) f := by
  obtain ⟨p', c', h1, h2⟩ := h
  exact ⟨p', c', h1, fun i x hx => by obtain ⟨b', o', h3, h4⟩ := h2 i x hx; exact ⟨b', o', h3, (World.cell?_of_block (a := ⟨b', o' + i, none⟩) (hb.block b' (World.block_lt_of_cell? w0 _ h4))).trans h4⟩⟩

theorem keepL_len (a h : Nat) (its : List It) : (keepL a h its).length ≤ its.length := List.length_filter_le _ _

/-- Whatever bytes come. -/
theorem one_recv (hg : Glob w0) (h : OneR w0 n gb pb pc rb T L W) (hL : L ≤ 4294960000) (p : Option Addr) (c : Nat) (f : List UInt8) (hc : f.length ≤ c) (hfl : f.length ≤ 1000000000) (hc9 : c ≤ 9223372036854775807) (hb : BytesAt w0 (.slice p f.length c) f) (fr : Int) :
    Calls Tryz.prog 30 #[.pointer (some ⟨rb, 0, none⟩), .int .i64 fr, .slice p f.length c] W fun e w' => e = .returned (.tuple #[]) ∧ OneR w0 n gb pb pc rb T (L + 201) w' := by
  obtain ⟨log, now, its, ow, ev, wv, h⟩ := h
  obtain ⟨hv, hR, -, hG⟩ := hg.at h.old
  have hn5 := h.n5
  have hlen := h.len
  have hits := h.itl
  have hrb := (h.feet rb (.inl rfl)).1
  have hg1 := hg.g1
  refine (receiveX hv hR hG (by omega) h.rep (by omega) (by omega) (by omega) p c f hc hfl hc9 (fun i x hx b o hp => ?_) (bytes_old hb h.old) fr).mono ?_
  · obtain ⟨p', c', h1, h2⟩ := hb
    simp only [Value.slice.injEq, true_and] at h1
    obtain ⟨b', o', h3, h4⟩ := h2 i x hx
    rw [h1.1, h3] at hp
    simp only [Option.some.injEq, Addr.mk.injEq, and_true] at hp
    have := World.block_lt_of_cell? w0 _ h4
    have hlt : b' < w0.heap.size := this
    omega
  · rintro e w' ⟨he, hp | ⟨a, b, hh, es, ⟨-, -, hA⟩, ev', wv', its', q1, q2, q3, q4, q5⟩⟩
    · exact ⟨he, log, now, its, ow, ev, wv, h.below hp (by omega)⟩
    · refine ⟨he, _, _, _, _, _, _, h.step (L' := L + 201) q5 (fun b hb => ?_) q1 ?_ h.now ?_ (fun t => ?_) q3 fun b hb => .inl (by rw [← q4]; exact hb)⟩
      · simp only [List.mem_cons, List.not_mem_nil, or_false, Option.some.injEq] at hb
        rcases hb with e | e | e
        · exact .inl e
        · exact .inr (.inl e.symm)
        · exact .inr (.inr e.symm)
      · have := learnAll_len es log
        have := hA.len
        omega
      · have := keepL_len a hh its
        have := q2.length_eq
        omega
      · rw [cntI_perm q2]
        exact Nat.le_trans (cntI_keep_le _ _ _ _) (h.cnt t)

theorem one_tick (hT : T < 1000000) (h : OneR w0 n gb pb pc rb T L W) :
    Calls Tryz.prog 25 #[.pointer (some ⟨rb, 0, none⟩)] W fun e w' => e = .returned (.tuple #[]) ∧ OneR w0 n gb pb pc rb (T + 1) L w' := by
  obtain ⟨log, now, its, ow, ev, wv, h⟩ := h
  have hnow := h.now
  refine (tickR h.rep (by omega)).mono ?_
  rintro e w' ⟨he, q1, q2⟩
  exact ⟨he, _, _, _, _, _, _, h.step (L' := L) q2 (fun b hb => .inl (by simpa using hb)) q1 h.len (by omega) h.itl h.cnt (fun _ e => .inl e) fun _ e => .inl e⟩

theorem cntI_later (now : Nat) (its : List It) (t : Nat) : cntI (its.map (laterI now)) t = cntI its t := by
  rw [← waitL_length, ← waitL_length, waitL_later]

theorem one_frames (hg : Glob w0) (hT : T < 1000000) (h : OneR w0 n gb pb pc rb T L W) (hL : L ≤ 4294960000) :
    Calls Tryz.prog 29 #[.pointer (some ⟨rb, 0, none⟩)] W fun e w' => ∃ v, e = .returned v ∧ OneR w0 n gb pb pc rb T L w' := by
  obtain ⟨log, now, its, ow, ev, wv, h⟩ := h
  obtain ⟨hv, hR, -, hG⟩ := hg.at h.old
  have hn5 := h.n5
  have hlen := h.len
  have hits := h.itl
  have hnow := h.now
  have hrb := (h.feet rb (.inl rfl)).1
  have hg1 := hg.g1
  have hg0 := hg.g0
  refine (framesR hv hR hG (by omega) ⟨fun e => by have := (h.feet 0 (.inr (.inr e))).1; omega, fun e => by have := (h.feet _ (.inr (.inr e))).1; omega⟩ h.rep (by omega) (by omega) (by omega) (fun t => by have := h.cnt t; omega) (by omega)).mono ?_
  rintro e w' ⟨fv, os, D, its', wv', he, -, -, q1, q2, q3, -, -, q4⟩
  refine ⟨fv, he, _, _, _, _, _, _, h.step (L' := L) q4 (fun b hb => ?_) q1 h.len h.now ?_ (fun t => ?_) (fun _ e => .inl e) fun b hb => (q3 b hb).1⟩
  · simp only [List.mem_cons, List.not_mem_nil, or_false, Option.some.injEq] at hb
    rcases hb with e | e
    · exact .inl e
    · exact .inr (.inr e.symm)
  · have := q2.length_eq
    rw [List.length_map] at this
    omega
  · rw [cntI_perm q2, cntI_later]
    exact h.cnt t

theorem one_view (hg : Glob w0) (h : OneR w0 n gb pb pc rb T L W) (hL : L ≤ 4294960000) :
    Calls Tryz.prog 23 #[.pointer (some ⟨rb, 0, none⟩)] W fun e w' => ∃ v, e = .returned v ∧ OneR w0 n gb pb pc rb T L w' := by
  obtain ⟨log, now, its, ow, ev, wv, h⟩ := h
  obtain ⟨hv, hR, hp, hG⟩ := hg.at h.old
  have hlen := h.len
  refine (viewR hv hp h.rep (by omega)).mono ?_
  rintro e w' ⟨s, he, -, hb⟩
  exact ⟨_, he, log, now, its, ow, ev, wv, h.below hb (Nat.le_refl _)⟩

end

/-- A new replica that milk was done at. -/
structure FinI (w0 : World) (rb : Nat) (x : En) (its : List It) (ow : Nat → Bool) (ev wv : Value) (W : World) : Prop where
  rep : RepQ W rb 2 0 0 [x] 0 its ow ev wv
  c : x.c = ⟨.closed, ⟨#[109, 105, 108, 107]⟩, 2⟩
  seq : x.seq = 1
  itl : its.length ≤ 40
  old : Below w0.heap.size w0 W
  rbn : w0.heap.size ≤ rb

def FinR (w0 : World) (rb : Nat) (W : World) : Prop := ∃ x its ow ev wv, FinI w0 rb x its ow ev wv W

section
variable {w0 W W' : World} {rb : Nat}

theorem FinR.below (h : FinR w0 rb W) (hb : Below W.heap.size W W') : FinR w0 rb W' := by
  obtain ⟨x, its, ow, ev, wv, h⟩ := h
  exact ⟨x, its, ow, ev, wv, h.rep.below hb, h.c, h.seq, h.itl, old_upd h.old (Upd.of_below (S := []) hb) (by simp), h.rbn⟩

theorem FinR.old (h : FinR w0 rb W) : Below w0.heap.size w0 W := by
  obtain ⟨x, its, ow, ev, wv, h⟩ := h
  exact h.old

theorem fin_do (hg : Glob w0) (hb : Below w0.heap.size w0 W) (hr : RepQ W rb 2 0 0 [] 0 [] (fun _ => false) (.slice none 0 0) (.slice none 0 0)) (hrb : w0.heap.size ≤ rb) :
    Calls Tryz.prog 20 #[.pointer (some ⟨rb, 0, none⟩), .string ⟨#[97, 100, 100, 32, 109, 105, 108, 107, 32, 50]⟩] W fun e w' => e = .returned (.int .i64 0) ∧ FinR w0 rb w' := by
  obtain ⟨hv, hR, -, hG⟩ := hg.at hb
  have hrc : readC ⟨#[97, 100, 100, 32, 109, 105, 108, 107, 32, 50]⟩ = some ⟨.closed, ⟨#[109, 105, 108, 107]⟩, 2⟩ := by kernel_rfl
  obtain ⟨x, hxo, hxs, hxa, hxc⟩ := mkEn 0 (by omega) [] (by simp) ⟨.closed, ⟨#[109, 105, 108, 107]⟩, 2⟩ (read_parts hrc).1
  refine (doR_ok hv hr (by omega) (by omega) (by simp) (by simp) (by omega) _ (by decide +kernel) x hxo hxs hxa (by rw [hxc]; exact hrc) (by rw [hxc]; rfl) (by decide)).mono ?_
  rintro e w' ⟨he, hu, ev', wj, its', hq, hp, h1, h2⟩
  refine ⟨he, x, its', _, ev', wj, hq, hxc, hxs, ?_, old_upd hb hu fun b hb => ?_, hrb⟩
  · have := hp.length_eq
    have h3 : (newIts 0 0 x 2).length ≤ 40 := by
      have h4 : ∀ l : List It, (∀ t, cntI l t ≤ 8) → l.length ≤ 40 := fun l hl => by
        have e : l.length = cntI l 0 + cntI l 1 + cntI l 2 + cntI l 3 + cntI l 4 := by
          clear hl
          induction l with
          | nil => rfl
          | cons p l ih =>
            have c : ∀ t, cntI (p :: l) t = cntI l t + if p.to = t then 1 else 0 := fun t => by
              unfold cntI
              rw [List.countP_cons]
              by_cases h : p.to = t <;> simp [h]
            rw [c, c, c, c, c, List.length_cons, ih]
            have := p.ht
            rcases (show p.to = 0 ∨ p.to = 1 ∨ p.to = 2 ∨ p.to = 3 ∨ p.to = 4 by omega) with h | h | h | h | h <;> simp [h] <;> omega
        have := hl 0; have := hl 1; have := hl 2; have := hl 3; have := hl 4
        omega
      refine h4 _ fun t => ?_
      by_cases ht : t < 2 ∧ t ≠ 0
      · rw [← waitL_length, newIts_wait (by omega) (by omega) ht.1 ht.2]; simp
      · have : cntI (newIts 0 0 x 2) t = 0 := by
          unfold cntI
          rw [List.countP_eq_zero]
          intro p hp hc
          have := newIts_mem (by omega) (by omega) hp
          simp at hc
          omega
        omega
    simpa using (by simp at this; omega : its'.length ≤ 40)
  · simp [Value.ownBlock] at hb
    omega

theorem fin_bad (hg : Glob w0) (h : FinR w0 rb W) (p : Option Addr) (c : Nat) (f : List UInt8) (hc : f.length ≤ c) (hfl : f.length ≤ 1000000000) (hc9 : c ≤ 9223372036854775807) (hok : okB f = false) (hz : ∀ (i : Nat) (x : UInt8), f[i]? = some x → ∀ b o, p = some ⟨b, o, none⟩ → b ≠ rb) (hb : BytesAt W (.slice p f.length c) f) (fr : Int) :
    Calls Tryz.prog 30 #[.pointer (some ⟨rb, 0, none⟩), .int .i64 fr, .slice p f.length c] W fun e w' => e = .returned (.tuple #[]) ∧ FinR w0 rb w' := by
  obtain ⟨x, its, ow, ev, wv, h⟩ := id h
  obtain ⟨hv, hR, -, hG⟩ := hg.at h.old
  have hg1 := hg.g1
  have hrb := h.rbn
  have hits := h.itl
  refine (receiveX hv hR hG (by omega) h.rep (by omega) (by simp) (by omega) p c f hc hfl hc9 hz hb fr).mono ?_
  rintro e w' ⟨he, hp | ⟨a, b, hh, es, ⟨-, q, -⟩, -⟩⟩
  · exact ⟨he, FinR.below ⟨x, its, ow, ev, wv, h⟩ hp⟩
  · rw [hok] at q; simp at q

theorem fin_known (hg : Glob w0) (h : FinR w0 rb W) :
    Calls Tryz.prog 28 #[.pointer (some ⟨rb, 0, none⟩)] W fun e w' => ∃ p c, e = .returned (.slice p 1 c) ∧ FinR w0 rb w' := by
  obtain ⟨x, its, ow, ev, wv, h⟩ := id h
  obtain ⟨hv, hR, -, hG⟩ := hg.at h.old
  refine (knownR hv h.rep (by simp)).mono ?_
  rintro e w' ⟨p, cap, he, -, hb⟩
  exact ⟨p, cap, he, FinR.below ⟨x, its, ow, ev, wv, h⟩ hb⟩

def milkL : List UInt8 := [109, 105, 108, 107]

theorem milk_text {x : En} (hc : x.c = ⟨.closed, ⟨#[109, 105, 108, 107]⟩, 2⟩) (hs : x.seq = 1) : TextIs (cartG [x] [x]) ⟨#[105, 116, 101, 109, 32, 109, 105, 108, 107, 32, 50, 10]⟩ := by
  have hst : stG [x] x = true := (stG_iff (by omega)).2 fun y hy hu => by
    simp at hy
    subst hy
    rw [hc] at hu
    exact absurd hu (by simp [Undo])
  have hit : ∀ s, (cartG [x] [x]).it s = if s = milkL then some 2 else none := fun s => by
    rw [cartG_it]
    simp only [List.map_cons, List.map_nil, List.sum_cons, List.sum_nil, Nat.add_zero]
    unfold cntG
    rw [hst, hc]
    by_cases e : s = milkL
    · subst e; rfl
    · have hz : (if (⟨.closed, ⟨#[109, 105, 108, 107]⟩, 2⟩ : Cm).k = .closed ∧ (⟨.closed, ⟨#[109, 105, 108, 107]⟩, 2⟩ : Cm).word.data.toList = s ∧ true = true then (⟨.closed, ⟨#[109, 105, 108, 107]⟩, 2⟩ : Cm).count else 0) = 0 := if_neg fun h => e h.2.1.symm
      rw [if_neg e, if_pos hz]
  have hcp : ∀ s, (cartG [x] [x]).cp s = false := fun s => by
    rw [cartG_cp]
    simp [isG, hc]
  have hno : ∀ s, (cartG [x] [x]).no s = false := fun s => by
    rw [cartG_no]
    simp [isG, hc]
  refine ⟨[milkL], [], [], ⟨List.pairwise_singleton _ _, fun s => ?_⟩, ⟨List.Pairwise.nil, fun s => by simp [hcp s]⟩, ⟨List.Pairwise.nil, fun s => by simp [hno s]⟩, ?_⟩
  · rw [hit]
    by_cases e : s = milkL <;> simp [e]
  · simp only [List.flatMap_cons, List.flatMap_nil, List.append_nil, itemLineC, hit, if_pos, Option.getD_some]
    kernel_rfl

theorem fin_view (hg : Glob w0) (h : FinR w0 rb W) :
    Calls Tryz.prog 23 #[.pointer (some ⟨rb, 0, none⟩)] W fun e w' => e = .returned (.string ⟨#[105, 116, 101, 109, 32, 109, 105, 108, 107, 32, 50, 10]⟩) ∧ FinR w0 rb w' := by
  obtain ⟨x, its, ow, ev, wv, h⟩ := id h
  obtain ⟨hv, hR, hp, hG⟩ := hg.at h.old
  refine (viewR hv hp h.rep (by simp)).mono ?_
  rintro e w' ⟨s, he, hs, hb⟩
  rw [textIs_unique hs (milk_text h.c h.seq)] at he
  exact ⟨he, FinR.below ⟨x, its, ow, ev, wv, h⟩ hb⟩

end

end Go.Proofs.YtckmppkdpnhodaaGreatDoor

namespace Go.Proofs.YtckmppkdpnhodaaGreatDoor
set_option linter.unusedVariables false
set_option linter.unusedSimpArgs false
open Go.RowKit Go.Proofs

theorem doS_nowB {n k i : Nat} {S : Nat → Sr} {x : En} (hn : ∀ j, j < n → (S j).now ≤ k) : ∀ j, j < n → (updS S i (doS n i (S i) x) j).now ≤ k := fun j hj => by
  by_cases e : j = i
  · subst e; rw [updS_same]; exact hn j hj
  · rw [updS_other _ _ e]; exact hn j hj

/-- The group while the first replica hears nothing: k ticks, t commands at the most. -/
def SilS (w0 : World) (n gb pb pc : Nat) (rbs : Nat → Nat) (k t : Nat) (W : World) : Prop :=
  ∃ S, GrpR w0 n 50 1000 gb pb pc rbs S W ∧ (S 0).log = [] ∧ totalS n S ≤ t ∧ ∀ j, j < n → (S j).now ≤ k

/-- .. and frames that the second one told. -/
def SilF (w0 : World) (n gb pb pc : Nat) (rbs : Nat → Nat) (k : Nat) (p : Option Addr) (m c : Nat) (W : World) : Prop :=
  ∃ S d os Ls B, (∀ i, d.rb i = rbs i) ∧ Grp w0 n 50 1000 S d gb pb pc W ∧ OutRow B (.slice p m c) os W ∧ os.length = m ∧ (∀ o ∈ os, ∀ b, o.2.1.ownBlock = some b → d.far n b) ∧ (∀ b, (Value.slice p m c).ownBlock = some b → d.far n b) ∧ Both (fun (o : Nat × Value × List UInt8) (L : Lt) => o.1 = L.dst ∧ Bears L o.2.2) os Ls ∧ (∀ L ∈ Ls, LtOk n S L ∧ L.src = 1) ∧ (∀ x ∈ (S 0).log, x.org = 1) ∧ (∀ j, j < n → (S j).now ≤ k) ∧ W.os = w0.os ∧ W.tape = w0.tape ∧ W.output = w0.output

section
variable {w0 W W' : World} {n gb pb pc : Nat} {rbs : Nat → Nat} {k t : Nat}

theorem SilS.below (h : SilS w0 n gb pb pc rbs k t W) (hb : Below W.heap.size W W') : SilS w0 n gb pb pc rbs k t W' := by
  obtain ⟨S, h1, h2⟩ := h
  exact ⟨S, h1.below hb, h2⟩

theorem SilS.mono {k' t' : Nat} (h : SilS w0 n gb pb pc rbs k t W) (hk : k ≤ k') (ht : t ≤ t') : SilS w0 n gb pb pc rbs k' t' W := by
  obtain ⟨S, h1, h2, h3, h4⟩ := h
  exact ⟨S, h1, h2, by omega, fun j hj => by have := h4 j hj; omega⟩

theorem SilS.old (h : SilS w0 n gb pb pc rbs k t W) : Below w0.heap.size w0 W := by
  obtain ⟨S, h1, h2⟩ := h
  exact h1.old

theorem SilS.cells (h : SilS w0 n gb pb pc rbs k t W) : W.cell? ⟨gb, 0, none⟩ = some (.slice (some ⟨pb, 0, none⟩) n pc) ∧ ∀ i, i < n → W.cell? ⟨pb, i, none⟩ = some (.pointer (some ⟨rbs i, 0, none⟩)) := by
  obtain ⟨S, h1, h2⟩ := h
  exact ⟨h1.c0, fun i hi => h1.ptr hi⟩

theorem SilS.n5 (h : SilS w0 n gb pb pc rbs k t W) : 2 ≤ n ∧ n ≤ 5 := by
  obtain ⟨S, h1, h2⟩ := h
  exact h1.n5

theorem sil_do (hg : Glob w0) {i : Nat} (hi : 1 ≤ i ∧ i < n) (ht : t < 50) (s : ByteArray) (hs : s.size ≤ 100) {c : Cm} (hr : readC s = some c) (h : SilS w0 n gb pb pc rbs k t W) :
    Calls Tryz.prog 20 #[.pointer (some ⟨rbs i, 0, none⟩), .string s] W fun e w' => ∃ v, e = .returned v ∧ SilS w0 n gb pb pc rbs k (t + 1) w' := by
  obtain ⟨S, hG, h0, h1, h2⟩ := id h
  obtain ⟨d, hrb, hgr, -⟩ := id hG
  rw [← hrb i]
  refine (doN hgr.net hg hi.2 (by omega) s (by unfold maxLen; omega)).mono ?_
  rintro e w' (⟨q, -⟩ | ⟨c', q, q2, q3, q4⟩ | ⟨c', q, q1, q2, q3, q4⟩ | ⟨x, q1, q2, q3, q4, q5, q6, q7, d', q8, q9⟩)
  · rw [hr] at q; simp at q
  · exact ⟨_, q3, (h.below q4).mono (Nat.le_refl _) (by omega)⟩
  · exact ⟨_, q3, (h.below q4).mono (Nat.le_refl _) (by omega)⟩
  · exact ⟨_, q7, _, hG.of ⟨d, hrb, hgr.step q8 q9, q9⟩, by rw [updS_other _ _ (by omega)]; exact h0, by rw [totalS_do hi.2 q4]; omega, doS_nowB h2⟩

theorem sil_do1 (hg : Glob w0) (h : GrpR w0 n 50 1000 gb pb pc rbs (fun _ => Sr.empty) W) :
    Calls Tryz.prog 20 #[.pointer (some ⟨rbs 1, 0, none⟩), .string ⟨#[97, 100, 100, 32, 116, 101, 97, 32, 51]⟩] W fun e w' => e = .returned (.int .i64 0) ∧ SilS w0 n gb pb pc rbs 0 1 w' := by
  have hn5 := h.n5
  have ht : totalS n (fun _ => Sr.empty) = 0 := (Sit.empty n).tot
  refine (h.do hg (i := 1) (by omega) (by omega) _ (by decide +kernel) (c := ⟨.closed, ⟨#[116, 101, 97]⟩, 3⟩) (by kernel_rfl) (by rfl) (by decide)).mono ?_
  rintro e w' ⟨he, x, q1, q2, q3, q4, q5⟩
  exact ⟨he, _, q5, by rw [updS_other _ _ (by omega)]; rfl, by rw [totalS_do (by omega) q2, ht]; omega, doS_nowB fun _ _ => Nat.le_refl _⟩

theorem sil_tick {i : Nat} (hi : i < n) (hk : k < 1000) (h : SilS w0 n gb pb pc rbs k t W) :
    Calls Tryz.prog 25 #[.pointer (some ⟨rbs i, 0, none⟩)] W fun e w' => e = .returned (.tuple #[]) ∧ SilS w0 n gb pb pc rbs (k + 1) t w' := by
  obtain ⟨S, hG, h0, h1, h2⟩ := id h
  obtain ⟨d, hrb, hgr, -⟩ := id hG
  rw [← hrb i]
  refine (tickN hgr.net hi (by have := h2 i hi; omega)).mono ?_
  rintro e w' ⟨he, d', q1, q2⟩
  have hl : ∀ j, (updS S i (tickS (S i)) j).log = (S j).log := fun j => updS_log (s := tickS (S i)) rfl j
  refine ⟨he, _, hG.of ⟨d, hrb, hgr.step q1 q2, q2⟩, by rw [hl]; exact h0, Nat.le_trans (Nat.le_of_eq (totalS_same fun j _ => by rw [hl])) h1, fun j hj => ?_⟩
  by_cases e : j = i
  · subst e; rw [updS_same]; have := h2 j hj; show (S j).now + 1 ≤ _; omega
  · rw [updS_other _ _ e]; have := h2 j hj; omega

theorem sil_known0 (hg : Glob w0) (h : SilS w0 n gb pb pc rbs k t W) :
    Calls Tryz.prog 28 #[.pointer (some ⟨rbs 0, 0, none⟩)] W fun e w' => ∃ p c, e = .returned (.slice p 0 c) ∧ SilS w0 n gb pb pc rbs k t w' := by
  have hn5 := h.n5
  obtain ⟨S, hG, h0, h1, h2⟩ := id h
  obtain ⟨d, hrb, hgr, -⟩ := id hG
  rw [← hrb 0]
  refine (knownN hgr.net hg (i := 0) (by omega)).mono ?_
  rintro e w' ⟨p, c, he, -, hb⟩
  rw [h0] at he
  exact ⟨p, c, he, h.below hb⟩

theorem sil_view0 (hg : Glob w0) (h : SilS w0 n gb pb pc rbs k t W) :
    Calls Tryz.prog 23 #[.pointer (some ⟨rbs 0, 0, none⟩)] W fun e w' => e = .returned (.string ⟨#[]⟩) ∧ SilS w0 n gb pb pc rbs k t w' := by
  have hn5 := h.n5
  obtain ⟨S, hG, h0, h1, h2⟩ := id h
  obtain ⟨d, hrb, hgr, -⟩ := id hG
  rw [← hrb 0]
  refine (viewN hgr.net hg (i := 0) (by omega)).mono ?_
  rintro e w' ⟨s, he, hs, hb⟩
  rw [h0] at hs
  have hemp : TextIs (cartG [] []) ⟨#[]⟩ := ⟨[], [], [], ⟨List.Pairwise.nil, fun x => by simp [cartG, CartS.empty]⟩, ⟨List.Pairwise.nil, fun x => by simp [cartG, CartS.empty]⟩, ⟨List.Pairwise.nil, fun x => by simp [cartG, CartS.empty]⟩, rfl⟩
  rw [textIs_unique hs hemp] at he
  exact ⟨he, h.below hb⟩

theorem sil_frames (hg : Glob w0) (h : SilS w0 n gb pb pc rbs k t W) :
    Calls Tryz.prog 29 #[.pointer (some ⟨rbs 1, 0, none⟩)] W fun e w' => ∃ p m c, e = .returned (.slice p m c) ∧ m ≤ 65 ∧ SilF w0 n gb pb pc rbs k p m c w' := by
  have hn5 := h.n5
  obtain ⟨S, hG, h0, h1, h2⟩ := id h
  obtain ⟨d, hrb, hgr, t1, t2, t3⟩ := id hG
  rw [← hrb 1]
  refine (framesN hgr.net hg (i := 1) (by omega)).mono ?_
  rintro e w' ⟨fv, os, Ls, s', d', he, q1, q2, q3, q4, q5, q6, q7, q8⟩
  obtain ⟨p, c, rfl⟩ := own_form q1.row
  have hlog : ∀ j, (updS S 1 s' j).log = (S j).log := fun j => updS_log q4.log j
  refine ⟨p, os.length, c, he, q2, _, d', os, Ls, W.heap.size, fun i => (q6.rb i).trans (hrb i), hgr.step q5 q6, q1, rfl, q8, q7, q3, fun L hL => ⟨?_, (q4.ok L hL).1⟩, fun x hx => ?_, fun j hj => ?_, q6.os.trans t1, q6.tape.trans t2, q6.output.trans t3⟩
  · exact updS_lt hgr.net.ok q4.log ((hgr.net.ok.lets (i := 1) (by omega) q4) L hL).1
  · rw [hlog, h0] at hx; simp at hx
  · by_cases e : j = 1
    · subst e; rw [updS_same, q4.now]; exact h2 1 hj
    · rw [updS_other _ _ e]; exact h2 j hj

end

section
variable {w0 W W' : World} {n gb pb pc : Nat} {rbs : Nat → Nat} {k : Nat} {p : Option Addr} {m c : Nat}

theorem SilF.cells (h : SilF w0 n gb pb pc rbs k p m c W) : W.cell? ⟨gb, 0, none⟩ = some (.slice (some ⟨pb, 0, none⟩) n pc) ∧ ∀ i, i < n → W.cell? ⟨pb, i, none⟩ = some (.pointer (some ⟨rbs i, 0, none⟩)) := by
  obtain ⟨S, d, os, Ls, B, hr, hG, -⟩ := h
  exact ⟨hG.c0, fun i hi => by rw [← hr i]; exact hG.ptr i hi⟩

/-- One of the frames, and what comes of it. -/
theorem sil_out (hg : Glob w0) (h : SilF w0 n gb pb pc rbs k p m c W) {j : Nat} (hj : j < m) :
    ∃ b ot q l cq, p = some ⟨b, 0, none⟩ ∧ W.cell? ⟨b, j * 2, none⟩ = some (.int .i64 ((ot : Nat) : Int)) ∧ W.cell? ⟨b, j * 2 + 1, none⟩ = some (.slice q l cq) ∧
      (ot = 0 → ∀ W', Below W.heap.size W W' → Calls Tryz.prog 30 #[.pointer (some ⟨rbs 0, 0, none⟩), .int .i64 1, .slice q l cq] W' fun e w' => e = .returned (.tuple #[]) ∧ w'.cell? ⟨b, j * 2 + 1, none⟩ = some (.slice q l cq) ∧ SilF w0 n gb pb pc rbs k p m c w') := by
  obtain ⟨S, d, os, Ls, B, hr, hG, hO, rfl, h2, h3, h4, h5, h6, h7, h8, h9, h10⟩ := h
  have hjl : j < Ls.length := by rw [← h4.len]; exact hj
  have hmem : os[j] ∈ os := List.getElem_mem hj
  obtain ⟨g, cap, hf, -, hgl⟩ := hO.row.form (by omega)
  simp only [Value.slice.injEq, true_and] at hf
  obtain ⟨rfl, rfl⟩ := hf
  have he := hO.each _ hmem
  obtain ⟨q, cq, hv⟩ := own_form he
  have cells := outCells_get os hj
  rw [hv] at cells
  have c1 : W.cell? ⟨g, j * 2 + 1, none⟩ = some (.slice q os[j].2.2.length cq) := by
    have := hO.row.cells (g := g) rfl (j * 2 + 1) _ cells.2
    rwa [Addr.add_mid, Nat.zero_add] at this
  refine ⟨g, os[j].1, q, os[j].2.2.length, cq, rfl, ?_, c1, fun h0 W' hb => ?_⟩
  · have := hO.row.cells (g := g) rfl (j * 2) _ cells.1
    rwa [Addr.add_mid, Nat.zero_add] at this
  · have hR := h4.get hj hjl
    obtain ⟨hL, hs⟩ := h5 _ (List.getElem_mem hjl)
    have hd : Ls[j].dst = 0 := by rw [← hR.1]; exact h0
    have hok := ((okB_iff _).1 hR.2.ok).1
    obtain ⟨z, cz, hf, -, hzl⟩ := he.form (by omega)
    rw [hv] at hf
    simp only [Value.slice.injEq, true_and] at hf
    obtain ⟨rfl, rfl⟩ := hf
    have hby := bytes_of_own he
    rw [hv] at hby
    have hcc : os[j].2.2.length ≤ cq ∧ cq ≤ 9223372036854775807 := by
      rcases he.2 with ⟨e1, -⟩ | ⟨g', c', cur, e1, -, -, e2, e3, -⟩
      · rw [hv] at e1; simp at e1
      · rw [hv] at e1
        simp at e1
        obtain ⟨-, rfl⟩ := e1
        unfold maxLen at e3
        exact ⟨e2, by omega⟩
    have hrc := receiveN (hG.below hb).net hg hL hR.2 hcc.1 hcc.2 (Nat.lt_of_lt_of_le hzl hb.size) (h2 _ hmem z (by rw [hv]; rfl)) (bytes_below hby hb)
    rw [hd, hs, hr 0] at hrc
    refine hrc.mono ?_
    rintro e w' ⟨he', d', hn, hst⟩
    have hOb := hO.below hb
    have hlt : ∀ b, (Value.slice (some ⟨g, 0, none⟩) os.length c).ownBlock = some b → b < W'.heap.size := fun b hb' => (hOb.row.lt b hb').2
    have hOw : OutRow B (.slice (some ⟨g, 0, none⟩) os.length c) os w' := hOb.upd hst.upd (fun b hb' => Side.far_iff.1 (h3 b hb')) fun o ho b hb' => Side.far_iff.1 (h2 o ho b hb')
    have hgrow : ∀ i, ∃ l, (updS S 0 (takeS (S 0) Ls[j]) i).log = (S i).log ++ l := fun i => by
      have := take_grow S Ls[j] i
      rwa [hd] at this
    refine ⟨he', ?_, _, d', os, Ls, B, fun i => (hst.rb i).trans (hr i), (hG.below hb).step hn hst, hOw, rfl, fun o ho b hb' => hst.far b ((hOb.each o ho).lt b hb').2 (h2 o ho b hb'), fun b hb' => hst.far b (hlt b hb') (h3 b hb'), h4, fun L hL' => ⟨hG.net.ok.lt (fun i _ => hgrow i) (h5 L hL').1, (h5 L hL').2⟩, fun x hx => ?_, fun i hi => ?_, hst.os.trans (hb.os.trans h8), hst.tape.trans (hb.tape.trans h9), hst.output.trans (hb.output.trans h10)⟩
    · have := hOw.row.cells (g := g) rfl (j * 2 + 1) _ cells.2
      rwa [Addr.add_mid, Nat.zero_add] at this
    · rw [updS_same] at hx
      rcases learnAll_mem hx with q1 | q1
      · exact h6 x q1
      · rw [(hL.es x q1).2, hs]
    · by_cases e : i = 0
      · subst e; rw [updS_same]; exact h7 0 hi
      · rw [updS_other _ _ e]; exact h7 i hi

/-- What is known there, in its order; from here on the last replica alone counts. -/
theorem sil_known (hg : Glob w0) (hk : k < 1000) (h : SilF w0 n gb pb pc rbs k p m c W) :
    Calls Tryz.prog 28 #[.pointer (some ⟨rbs 0, 0, none⟩)] W fun e w' => ∃ p2 m2 c2, e = .returned (.slice p2 m2 c2) ∧ m2 ≤ 50 ∧ (∀ j, j < m2 → ∃ b, p2 = some ⟨b, 0, none⟩ ∧ w'.cell? ⟨b, j * 3, none⟩ = some (.int .i64 1) ∧ w'.cell? ⟨b, j * 3 + 1, none⟩ = some (.int .i64 ((j : Int) + 1))) ∧ OneR w0 n gb pb pc (rbs (n - 1)) 1000 50 w' := by
  obtain ⟨S, d, os, Ls, B, hr, hG, hO, rfl, h2, h3, h4, h5, h6, h7, h8, h9, h10⟩ := h
  have hn5 := hG.net.fit.n5
  rw [← hr 0]
  refine (knownN hG.net hg (i := 0) (by omega)).mono ?_
  rintro e w' ⟨p2, c2, he, hrow, hb⟩
  have hlen : ∀ i, i < n → (S i).log.length ≤ 50 := fun i hi => Nat.le_trans (hG.net.ok.len_le hi) hG.net.fit.len
  have hown : ownL 1 (S 0).log = (S 0).log := List.filter_eq_self.2 fun x hx => by simpa using h6 x hx
  refine ⟨p2, (S 0).log.length, c2, he, hlen 0 (by omega), fun j hj => ?_, ?_⟩
  · obtain ⟨g, cap, hf, -, -⟩ := hrow.form (by omega)
    simp only [Value.slice.injEq, true_and] at hf
    obtain ⟨rfl, rfl⟩ := hf
    have hx : (S 0).log[j] ∈ (S 0).log := List.getElem_mem hj
    have ho := h6 _ hx
    have hs : (S 0).log[j].seq = j + 1 := by
      have := (hG.net.ok.one 0 (by omega)).log.seq (o := 1) (k := j) (x := (S 0).log[j]) (by rw [hown]; exact List.getElem?_eq_getElem hj)
      have h0 : cntL ([] : List En) 1 = 0 := rfl
      omega
    have hfl := flat_at (fun x : En => [Value.int .i64 (x.org : Int), .int .i64 (x.seq : Int), .string (textOf x.c)]) 3 (fun _ => rfl) (S 0).log j
    have c0 : (opsRow (S 0).log)[j * 3]? = some (.int .i64 1) := by
      have := hfl 0 hj (by omega)
      simp only [Nat.add_zero] at this
      unfold opsRow
      rw [this]
      simp [ho]
    have c1 : (opsRow (S 0).log)[j * 3 + 1]? = some (.int .i64 ((j : Int) + 1)) := by
      have := hfl 1 hj (by omega)
      unfold opsRow
      rw [this]
      simp [hs]
    refine ⟨g, rfl, ?_, ?_⟩
    · have := hrow.cells (g := g) rfl (j * 3) _ c0
      rwa [Addr.add_mid, Nat.zero_add] at this
    · have := hrow.cells (g := g) rfl (j * 3 + 1) _ c1
      rwa [Addr.add_mid, Nat.zero_add] at this
  · have hGb := hG.below hb
    have hi : n - 1 < n := by omega
    have hrep := hGb.net.m.rep (n - 1) hi
    rw [hr (n - 1)] at hrep
    refine ⟨_, _, _, _, _, _, hrep, hn5, hlen _ hi, by have := h7 _ hi; omega, hGb.net.its hi, hGb.net.cnt hi, ⟨hb.os.trans h8, hb.tape.trans h9, hb.output.trans h10, hGb.net.size, fun b hb' => (hGb.net.old b hb').1⟩, fun b hf => ?_, hGb.c0, by have := hGb.ptr _ hi; rwa [hr] at this⟩
    have hf' : d.foot (n - 1) b := by
      rcases hf with e | e | e
      · exact .inl (by rw [hr]; exact e)
      · exact .inr (.inl e)
      · exact .inr (.inr e)
    refine ⟨?_, fun e => hGb.gfar.2 _ hi (by rw [← e]; exact hf'), fun e => hGb.pfar.2 _ hi (by rw [← e]; exact hf')⟩
    by_cases hl : b < w0.heap.size
    · exact absurd hf' ((hGb.net.old b hl).2 _ hi)
    · omega

end

end Go.Proofs.YtckmppkdpnhodaaGreatDoor
