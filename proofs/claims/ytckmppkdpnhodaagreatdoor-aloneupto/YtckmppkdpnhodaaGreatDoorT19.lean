/-
  What the statement asks of a replica's calls; what holds of the world between the steps; Do, View, Known keep it. Alone, for whatever replicas whose calls do what is asked of them. The numbers under which the program holds the library's lock, and that it holds it.
-/
import Derived.Test.YtckmppkdpnhodaaGreatDoorT17
import Derived.Test.YtckmppkdpnhodaaGreatDoorT18
import Derived.Test.YtckmppkdpnhodaaGreatDoorProg
import Derived.Conc.MuLone
import Derived.KernelRfl
namespace Go.Proofs.YtckmppkdpnhodaaGreatDoor
set_option linter.unusedVariables false
set_option linter.unusedSimpArgs false
open Go.RowKit Go.Proofs

/-- What the statement asks of the replica's calls. (G: what stands of the variables of the packages.) -/
structure Rep (R : World → Nat → Nat → Nat → List Cm → (Nat → Prop) → Prop) (G : World → Prop) : Prop where
  loc : Local R
  new : ∀ n, 2 ≤ n ∧ n ≤ 5 → NewDoes R n
  known : ∀ {w : World} {rb n me : Nat} {log : List Cm} {F : Nat → Prop}, G w → R w rb n me log F → Calls Tryz.prog 28 #[.pointer (some ⟨rb, 0, none⟩)] w fun e w' => ∃ p cap, e = .returned (.slice p log.length cap) ∧ w'.ownsRow w.heap.size 68 3 (.slice p log.length cap) log.length (ownOps me log) ∧ Below w.heap.size w w'
  view : ∀ {w : World} {rb n me : Nat} {log : List Cm} {F : Nat → Prop}, G w → R w rb n me log F → Calls Tryz.prog 23 #[.pointer (some ⟨rb, 0, none⟩)] w fun e w' => ∃ s, e = .returned (.string s) ∧ IsView (ownTr me log) (List.range log.length) s ∧ Below w.heap.size w w'
  bad : ∀ {w : World} {rb n me : Nat} {log : List Cm} {F : Nat → Prop} (s : ByteArray), G w → R w rb n me log F → s.size ≤ maxLen → readC s = none → Calls Tryz.prog 20 #[.pointer (some ⟨rb, 0, none⟩), .string s] w fun e w' => e = .returned (.int .i64 2) ∧ Below w.heap.size w w'
  unk : ∀ {w : World} {rb n me : Nat} {log : List Cm} {F : Nat → Prop} (s : ByteArray) (cm : Cm), G w → R w rb n me log F → s.size ≤ maxLen → readC s = some cm → lacks (ownTr me log) (List.range log.length) cm = true → Calls Tryz.prog 20 #[.pointer (some ⟨rb, 0, none⟩), .string s] w fun e w' => e = .returned (.int .i64 3) ∧ Below w.heap.size w w'
  full : ∀ {w : World} {rb n me : Nat} {log : List Cm} {F : Nat → Prop} (s : ByteArray) (cm : Cm), G w → R w rb n me log F → s.size ≤ maxLen → readC s = some cm → lacks (ownTr me log) (List.range log.length) cm = false → 8 ≤ log.length → Calls Tryz.prog 20 #[.pointer (some ⟨rb, 0, none⟩), .string s] w fun e w' => e = .returned (.int .i64 4) ∧ Below w.heap.size w w'
  ok : ∀ {w : World} {rb n me : Nat} {log : List Cm} {F : Nat → Prop} (s : ByteArray) (cm : Cm), G w → R w rb n me log F → s.size ≤ maxLen → readC s = some cm → lacks (ownTr me log) (List.range log.length) cm = false → log.length < 8 → Calls Tryz.prog 20 #[.pointer (some ⟨rb, 0, none⟩), .string s] w fun e w' => e = .returned (.int .i64 0) ∧ w'.os = w.os ∧ w'.tape = w.tape ∧ w'.output = w.output ∧ w.heap.size ≤ w'.heap.size ∧ (∀ b, b < w.heap.size → ¬ F b → w'.heap[b]? = w.heap[b]?) ∧ R w' rb n me (log ++ [cm]) fun b => (b < w.heap.size ∧ F b) ∨ w.heap.size ≤ b

structure Inv (n : Nat) (lg : Nat → List Cm) (st : St) : Prop where
  sn : st.n = n
  hn : 2 ≤ n ∧ n ≤ 5
  fl : st.fresh.length = n
  bks : ∀ e ∈ st.bk, e.1 ≤ 20
  deaf : Deaf n st.tr
  logs : ∀ i, i < n → st.logs[i]? = some (lg i)
  since : ∀ i, i < n → st.since[i]? = some (own st.tr i).length
  le8 : ∀ i, i < n → (own st.tr i).length ≤ 8
  xs : ∀ i, i < n → ∃ m, m ≤ (own st.tr i).length ∧ st.xss[i]? = some ((own st.tr i).take m) ∧ (st.fresh[i]? = some true ∨ m = (own st.tr i).length)

/-- What was there when the statement began stands. -/
structure Old (w0 W : World) (c : Nat → Nat) : Prop where
  bel : Below w0.heap.size w0 W
  col : ∀ b, b < w0.heap.size → c b = 0

theorem Old.stp {w0 W W' : World} {c c' : Nat → Nat} (h : Old w0 W c) (s : Stp W c W' c') : Old w0 W' c' :=
  ⟨⟨s.os.trans h.bel.os, s.tape.trans h.bel.tape, s.output.trans h.bel.output, Nat.le_trans h.bel.size s.size, fun b hb => (s.zero b (Nat.lt_of_lt_of_le hb h.bel.size) (h.col b hb)).trans (h.bel.block b hb)⟩,
   fun b hb => (s.col b (Nat.lt_of_lt_of_le hb h.bel.size)).trans (h.col b hb)⟩

theorem Old.below {w0 W W' : World} {c : Nat → Nat} (h : Old w0 W c) (s : Below W.heap.size W W') : Old w0 W' c := h.stp (Stp.below s)

theorem Inv.asked {n : Nat} {lg : Nat → List Cm} {st : St} (h : Inv n lg st) {k : Nat} (hk : k < n) : Inv n lg (st.asked k (own st.tr k)) := by
  have h8 := h.le8 k hk
  refine ⟨h.sn, h.hn, by simp [St.asked, h.fl], fun e he => by
    simp only [St.asked, List.mem_append, List.mem_cons, List.not_mem_nil, or_false] at he
    rcases he with he | rfl | rfl | rfl | rfl
    · exact h.bks e he
    all_goals (simp only; omega), h.deaf, h.logs, h.since, h.le8, fun i hi => ?_⟩
  obtain ⟨m, h1, h2, h3⟩ := h.xs i hi
  have hxl := (List.getElem?_eq_some_iff.1 h2).1
  by_cases hik : i = k
  · subst hik
    exact ⟨(own st.tr i).length, Nat.le_refl _, by simp [St.asked, hxl], .inr rfl⟩
  · refine ⟨m, h1, ?_, ?_⟩
    · simp only [St.asked]; rw [List.getElem?_set_ne (fun e => hik e.symm)]; exact h2
    · simp only [St.asked]; rw [List.getElem?_set_ne (fun e => hik e.symm)]; exact h3

theorem own_length_log (tr : List Dn) (k : Nat) : (logOf tr k).length = (own tr k).length := by simp [logOf]

section
variable {R : World → Nat → Nat → Nat → List Cm → (Nat → Prop) → Prop} {G : World → Prop} {w0 : World}

theorem rep_at {W : World} {c : Nat → Nat} {L : Lay} {st : St} {n : Nat} {lg : Nat → List Cm} (h : Mem R W c L st) (hi : Inv n lg st) {k : Nat} (hk : k < n) :
    R W (st.rbs[k]'(by rw [h.llen, hi.sn]; exact hk)) st.n k (lg k) fun b => c b = 20 + k := by
  have hl := hi.logs k hk
  obtain ⟨h1, h2⟩ := List.getElem?_eq_some_iff.1 hl
  have := h.reps k h1 (by rw [h.llen, hi.sn]; exact hk)
  rwa [h2] at this

theorem ask_does (rep : Rep R G) (hG : ∀ W, Below w0.heap.size w0 W → G W) {W : World} {c : Nat → Nat} {L : Lay} {st : St} {n : Nat} {lg : Nat → List Cm} (h : Mem R W c L st) (hi : Inv n lg st) (ho : Old w0 W c) {k : Nat} (hk : k < n) (hlg : lg k = logOf st.tr k)
    (hTl : st.tr.length ≤ 1000000000000) (hN : st.bk.length ≤ 100000000000) : AskDoes R W c L st k (own st.tr k) := by
  have hsn := hi.sn
  have hkn : k < st.n := by rw [hsn]; exact hk
  obtain ⟨m, h1, h2, h3⟩ := hi.xs k hk
  have hr := rep_at h hi hk
  rw [hlg] at hr
  have h8 := hi.le8 k hk
  refine asks_mem rep.loc h hkn (own st.tr k) (hi.deaf.told k) ⟨m, h1, ?_, ?_⟩ hTl (by omega) hN ?_
  · exact (List.getElem?_eq_some_iff.1 h2).2
  · rcases h3 with h3 | h3
    · exact .inl (List.getElem?_eq_some_iff.1 h3).2
    · exact .inr h3
  · refine (rep.known (hG W ho.bel) hr).mono ?_
    rintro e w' ⟨p, cap, rfl, hw, hb⟩
    rw [own_length_log] at hw ⊢
    rw [hi.deaf.ops k]
    exact ⟨p, cap, rfl, hw, hb⟩

end

theorem deaf_small {n : Nat} {tr : List Dn} (h : Deaf n tr) : Small tr := fun d hd => by
  obtain ⟨p, hp, rfl⟩ := List.mem_iff_getElem.1 hd
  have := h.ok p hp
  rw [dnAt_of hp] at this
  by_cases e : tr[p].c.k = .closed
  · exact (this.add e).2
  · rw [this.other e]; omega

theorem deaf_words {n : Nat} {tr : List Dn} (h : Deaf n tr) (k : Nat) : ∀ x ∈ wordsOf tr (own tr k), x ≠ [] ∧ x.length ≤ 8 := fun x hx => by
  simp only [wordsOf, List.mem_map] at hx
  obtain ⟨p, hp, rfl⟩ := hx
  have hpl := (mem_ownTo.1 hp).1
  have hw := (h.ok p hpl).word
  have e : cmAt tr p = (dnAt tr p).c := rfl
  rw [e]
  simp only [wordB, Bool.and_eq_true, decide_eq_true_eq] at hw
  have hl : (dnAt tr p).c.word.toList.length = (dnAt tr p).c.word.size := by rw [ByteArray.toList_eq, Array.length_toList]; rfl
  refine ⟨fun e => ?_, by omega⟩
  rw [e] at hl
  simp at hl
  omega

section
variable {R : World → Nat → Nat → Nat → List Cm → (Nat → Prop) → Prop} {G : World → Prop} {w0 : World}

/-- What the world is between two steps. -/
def Between (R : World → Nat → Nat → Nat → List Cm → (Nat → Prop) → Prop) (w0 : World) (n wb T B : Nat) (W : World) : Prop :=
  ∃ c L st, L.wb = wb ∧ Mem R W c L st ∧ Inv n (logOf st.tr) st ∧ Old w0 W c ∧ st.tr.length ≤ T ∧ st.bk.length ≤ B

theorem Between.mono {n wb T B T' B' : Nat} {W : World} (h : Between R w0 n wb T B W) (hT : T ≤ T') (hB : B ≤ B') : Between R w0 n wb T' B' W := by
  obtain ⟨c, L, st, h1, h2, h3, h4, h5, h6⟩ := h
  exact ⟨c, L, st, h1, h2, h3, h4, by omega, by omega⟩

theorem Between.below (rep : Rep R G) {n wb T B : Nat} {W W' : World} (h : Between R w0 n wb T B W) (hb : Below W.heap.size W W') : Between R w0 n wb T B W' := by
  obtain ⟨c, L, st, h1, h2, h3, h4, h5, h6⟩ := h
  exact ⟨c, L, st, h1, h2.below rep.loc hb, h3, h4.below hb, h5, h6⟩

theorem asks_between (rep : Rep R G) (hG : ∀ W, Below w0.heap.size w0 W → G W) {n wb T B : Nat} {W : World} (h : Between R w0 n wb T B W) {k : Nat} (hk : k < n) (hT : T ≤ 10000000000) (hB : B ≤ 50000000000) :
    Calls Tryz.prog 35 #[.pointer (some ⟨wb, 0, none⟩), .int .i64 (k : Int)] W fun e w' => e = .returned (.bool true) ∧ Between R w0 n wb T (B + 4) w' := by
  obtain ⟨c, L, st, h1, h2, h3, h4, h5, h6⟩ := h
  have ha := ask_does rep hG h2 h3 h4 hk rfl (by omega) (by omega)
  unfold AskDoes at ha
  rw [h1] at ha
  refine ha.mono ?_
  rintro e w' ⟨rfl, c', L', hL', hm', hs'⟩
  exact ⟨rfl, c', L', _, hL', hm', h3.asked hk, h4.stp hs', h5, by simp [St.asked]; omega⟩

theorem views_between (rep : Rep R G) (hG : ∀ W, Below w0.heap.size w0 W → G W) {n wb T B : Nat} {W : World} (h : Between R w0 n wb T B W) {k : Nat} (hk : k < n) (hT : T ≤ 10000000000) (hB : B ≤ 50000000000) :
    Calls Tryz.prog 33 #[.pointer (some ⟨wb, 0, none⟩), .int .i64 (k : Int)] W fun e w' => e = .returned (.bool true) ∧ Between R w0 n wb T (B + 4) w' := by
  obtain ⟨c, L, st, h1, h2, h3, h4, h5, h6⟩ := h
  have ha := ask_does rep hG h2 h3 h4 hk rfl (by omega) (by omega)
  have hkn : k < st.n := by rw [h3.sn]; exact hk
  have h8 := h3.le8 k hk
  have hw := deaf_words h3.deaf k
  have := views_mem rep.loc h2 hkn (own st.tr k) ha (fun y hy => (mem_ownTo.1 hy).1) (deaf_small h3.deaf) (fun x hx => (hw x hx).1) (fun x hx => (hw x hx).2) (by unfold maxLen; omega) (by omega) (fun w' c' L' hm' hs' => by
    have hi' := h3.asked hk
    have hr := rep_at hm' hi' hk
    refine (rep.view (hG w' (h4.stp hs').bel) hr).mono ?_
    rintro e w'' ⟨s, rfl, hv, hb⟩
    refine ⟨s, rfl, ?_, hb⟩
    have := (h3.deaf.alike k).view hv
    rwa [own_eq_map] at this)
  rw [h1] at this
  refine this.mono ?_
  rintro e w' ⟨rfl, c', L', hL', hm', hs'⟩
  exact ⟨rfl, c', L', _, hL', hm', h3.asked hk, h4.stp hs', h5, by simp [St.asked]; omega⟩

theorem inv_done {n k : Nat} {lg : Nat → List Cm} {st : St} (h : Inv n lg st) (hk : k < n) {s : ByteArray} {cm : Cm} (hr : readC s = some cm) (h8 : (own st.tr k).length < 8)
    (hlg : ∀ i, i < n → lg i = logOf st.tr i ++ if i = k then [cm] else []) (hx : st.xss[k]? = some (own st.tr k)) :
    Inv n (logOf (st.done k ⟨k, (own st.tr k).length + 1, s, cm, own st.tr k⟩).tr) (st.done k ⟨k, (own st.tr k).length + 1, s, cm, own st.tr k⟩) := by
  obtain ⟨hok, ht⟩ := read_parts hr
  subst ht
  have ho : ∀ i, own (st.tr ++ [(⟨k, (own st.tr k).length + 1, textOf cm, cm, own st.tr k⟩ : Dn)]) i = own st.tr i ++ if k = i then [st.tr.length] else [] := fun i => own_snoc _ _ _
  refine ⟨h.sn, h.hn, by simp [St.done, h.fl], h.bks, h.deaf.snoc hk hok, fun i hi => ?_, fun i hi => ?_, fun i hi => ?_, fun i hi => ?_⟩
  · show st.logs[i]? = _
    rw [h.logs i hi, hlg i hi]
    simp only [St.done]
    rw [logOf_snoc]
    by_cases e : i = k
    · subst e; simp
    · rw [if_neg e, if_neg (fun e' => e e'.symm)]
  · simp only [St.done]
    rw [ho i]
    have hs := h.since i hi
    have hsl := (List.getElem?_eq_some_iff.1 hs).1
    by_cases e : i = k
    · subst e
      simp [hsl, hs]
      exact (List.getElem?_eq_some_iff.1 hs).2
    · rw [List.getElem?_set_ne (fun e' => e e'.symm), hs, if_neg (fun e' => e e'.symm), List.append_nil]
  · simp only [St.done]
    rw [ho i]
    by_cases e : k = i
    · subst e; simp; omega
    · rw [if_neg e, List.append_nil]; exact h.le8 i hi
  · simp only [St.done]
    rw [ho i]
    obtain ⟨m, h1, h2, h3⟩ := h.xs i hi
    by_cases e : i = k
    · subst e
      refine ⟨(own st.tr i).length, by simp, ?_, .inl ?_⟩
      · rw [hx]; simp
      · have hfl : i < st.fresh.length := by rw [h.fl]; exact hk
        simp [hfl]
    · refine ⟨m, ?_, ?_, ?_⟩
      · rw [if_neg (fun e' => e e'.symm), List.append_nil]; exact h1
      · rw [if_neg (fun e' => e e'.symm), List.append_nil]; exact h2
      · rw [if_neg (fun e' => e e'.symm), List.append_nil, List.getElem?_set_ne (fun e' => e e'.symm)]; exact h3

theorem does_between (rep : Rep R G) (hG : ∀ W, Below w0.heap.size w0 W → G W) {n wb T B : Nat} {W : World} (h : Between R w0 n wb T B W) {k : Nat} (hk : k < n) (hT : T ≤ 10000000000) (hB : B ≤ 50000000000) (s : ByteArray) (hs : s.size ≤ maxLen) :
    Calls Tryz.prog 16 #[.pointer (some ⟨wb, 0, none⟩), .int .i64 (k : Int), .string s] W fun e w' => e = .returned (.bool true) ∧ Between R w0 n wb (T + 1) (B + 28) w' := by
  obtain ⟨c, L, st, h1, h2, h3, h4, h5, h6⟩ := h
  have ha := ask_does rep hG h2 h3 h4 hk rfl (by omega) (by omega)
  have hkn : k < st.n := by rw [h3.sn]; exact hk
  have h8 := h3.le8 k hk
  have hn5 := h3.hn.2
  have hia := h3.asked hk
  have hlen := own_length_log st.tr k
  have hlk : ∀ cm, lacks st.tr (own st.tr k) cm = lacks (ownTr k (logOf st.tr k)) (List.range (logOf st.tr k).length) cm := fun cm => by
    have := (h3.deaf.alike k).lack cm
    rwa [own_eq_map] at this
  cases hr : readC s with
  | none =>
    have := does_bad rep.loc h2 hkn (own st.tr k) ha s hs hr (fun w' c' L' hm' hs' => rep.bad s (hG w' (h4.stp hs').bel) (rep_at hm' hia hk) hs hr)
    rw [h1] at this
    refine this.mono ?_
    rintro e w' ⟨rfl, c', L', hL', hm', hs'⟩
    exact ⟨rfl, c', L', _, hL', hm', hia, h4.stp hs', by show st.tr.length ≤ _; omega, by simp [St.asked]; omega⟩
  | some cm =>
    cases hl : lacks st.tr (own st.tr k) cm with
    | true =>
      have := does_unknown rep.loc h2 hkn (own st.tr k) ha s hs cm hr (fun y hy => (mem_ownTo.1 hy).1) (deaf_small h3.deaf) (by unfold maxLen; omega) (by omega) hl
        (fun w' c' L' hm' hs' => rep.unk s cm (hG w' (h4.stp hs').bel) (rep_at hm' hia hk) hs hr (by rw [← hl, hlk]))
      rw [h1] at this
      refine this.mono ?_
      rintro e w' ⟨rfl, c', L', hL', hm', hs'⟩
      exact ⟨rfl, c', L', _, hL', hm', hia, h4.stp hs', by show st.tr.length ≤ _; omega, by simp [St.asked]; omega⟩
    | false =>
      by_cases hf : 8 ≤ (own st.tr k).length
      · have := does_full rep.loc h2 hkn (own st.tr k) ha s hs cm hr (fun y hy => (mem_ownTo.1 hy).1) (deaf_small h3.deaf) (by unfold maxLen; omega) (by omega) hl
          (fun i st' => Inv n (logOf st.tr) st' ∧ st'.tr = st.tr ∧ st'.since = st.since ∧ st'.bk.length ≤ B + 4 + 4 * i) (fun i => own st.tr i)
          (fun _ _ _ _ _ => ⟨hia, rfl, rfl, by simp [St.asked]; omega⟩) (fun i st' hq => ⟨hq.1.sn.trans h3.sn.symm, hq.2.1, hq.2.2.1⟩) (fun st' hq => ⟨hq.1, hq.2.1, hq.2.2.1, by omega⟩)
          (fun i st' hik hin hq => by
            have hin' : i < n := by rw [← h3.sn]; exact hin
            have hb := hq.1.asked hin'
            rw [hq.2.1] at hb
            exact ⟨⟨hb, hq.2.1, hq.2.2.1, by simp [St.asked]; omega⟩, by have := h3.le8 i hin'; unfold maxLen; omega⟩)
          (fun i w' c' L' st' hik hin hm' hq hs' => by
            have hin' : i < n := by rw [← h3.sn]; exact hin
            have := ask_does rep hG hm' hq.1 (h4.stp hs') hin' (by rw [hq.2.1]) (by rw [hq.2.1]; omega) (by omega)
            rwa [hq.2.1] at this)
          (by omega) (by have := h3.since k hk; rw [(List.getElem?_eq_some_iff.1 this).2]; exact hf)
          (fun x hx => by
            obtain ⟨i, hi, rfl⟩ := List.mem_iff_getElem.1 hx
            have hin : i < n := by rw [← h3.sn, ← h2.slen]; exact hi
            have := h3.since i hin
            rw [(List.getElem?_eq_some_iff.1 this).2]
            have := h3.le8 i hin
            omega)
          (fun w' c' L' hm' hs' => rep.full s cm (hG w' (h4.stp hs').bel) (rep_at hm' hia hk) hs hr (by rw [← hl, hlk]) (by show 8 ≤ (logOf st.tr k).length; omega))
        rw [h1] at this
        refine this.mono ?_
        rintro e w' ⟨rfl, c', L', st', hL', hm', hq, hs'⟩
        refine ⟨rfl, c', L', st', hL', hm', ?_, h4.stp hs', by rw [hq.2.1]; omega, by have := hq.2.2.2; rw [h3.sn] at this; omega⟩
        rw [hq.2.1]; exact hq.1
      · have hlt : (own st.tr k).length < 8 := by omega
        have hxk : (st.asked k (own st.tr k)).xss[k]? = some (own st.tr k) := by
          have : k < st.xss.length := by rw [h2.xlen]; exact hkn
          simp [St.asked, this]
        have hlg : ∀ i, (if i = k then logOf st.tr k ++ [cm] else logOf st.tr i) = logOf st.tr i ++ if i = k then [cm] else [] := fun i => by
          by_cases e : i = k
          · subst e; simp
          · simp [e]
        have := does_ok rep.loc h2 hkn (own st.tr k) ha s hs cm hr (fun y hy => (mem_ownTo.1 hy).1) (deaf_small h3.deaf) (by unfold maxLen; omega) (by omega) hl (logOf st.tr k ++ [cm])
          (fun i st' => Inv n (fun i => if i = k then logOf st.tr k ++ [cm] else logOf st.tr i) st' ∧ st'.tr = st.tr ∧ st'.since = st.since ∧ st'.xss[k]? = some (own st.tr k) ∧ st'.bk.length ≤ B + 4 + 4 * i) (fun i => own st.tr i)
          (by
            refine ⟨⟨hia.sn, hia.hn, hia.fl, hia.bks, hia.deaf, fun i hi => ?_, hia.since, hia.le8, hia.xs⟩, rfl, rfl, hxk, by simp [St.asked, St.did]; omega⟩
            have hl' := hia.logs i hi
            have hll := (List.getElem?_eq_some_iff.1 hl').1
            by_cases e : i = k
            · subst e; simp [St.did, hll]
            · simp only [St.did]; rw [List.getElem?_set_ne (fun e' => e e'.symm), if_neg e]; exact hl')
          (fun i st' hq => ⟨hq.1.sn.trans h3.sn.symm, hq.2.1, hq.2.2.1, hq.2.2.2.1⟩) (fun st' hq => ⟨hq.1, hq.2.1, hq.2.2.1, hq.2.2.2.1, by omega⟩)
          (fun i st' hik hin hq => by
            have hin' : i < n := by rw [← h3.sn]; exact hin
            have hb := hq.1.asked hin'
            rw [hq.2.1] at hb
            refine ⟨⟨hb, hq.2.1, hq.2.2.1, ?_, by simp [St.asked]; omega⟩, by have := h3.le8 i hin'; unfold maxLen; omega, ?_⟩
            · simp only [St.asked]; rw [List.getElem?_set_ne hik]; exact hq.2.2.2.1
            · have := Deaf.unk (n := n) (tr := st.tr) k i (own st.tr i).length hik
              rw [List.take_length] at this
              rw [this]; exact hlt)
          (fun i w' c' L' st' hik hin hm' hq hs' => by
            have hin' : i < n := by rw [← h3.sn]; exact hin
            have := ask_does rep hG hm' hq.1 (h4.stp hs') hin' (by rw [hq.2.1]; exact if_neg hik) (by rw [hq.2.1]; omega) (by omega)
            rwa [hq.2.1] at this)
          (by omega)
          (fun x hx => by
            obtain ⟨i, hi, rfl⟩ := List.mem_iff_getElem.1 hx
            have hin : i < n := by rw [← h3.sn, ← h2.slen]; exact hi
            have := h3.since i hin
            rw [(List.getElem?_eq_some_iff.1 this).2]
            have := h3.le8 i hin
            omega)
          (own (st.tr ++ [(⟨k, (own st.tr k).length + 1, s, cm, own st.tr k⟩ : Dn)]) k) (by rw [own_snoc]; simp)
          (fun w' c' L' hm' hs' => by
            refine (rep.ok s cm (hG w' (h4.stp hs').bel) (rep_at hm' hia hk) hs hr (by rw [← hl, hlk]) (by show (logOf st.tr k).length < 8; omega)).mono ?_
            rintro e w'' ⟨rfl, g1, g2, g3, g4, g5, g6⟩
            exact ⟨rfl, hm'.did rep.loc (by show k < st.n; exact hkn) g1 g2 g3 g4 g5 g6⟩)
          (fun w' c' L' st' hm' hq hs' => by
            have hd := inv_done hq.1 hk (s := s) (cm := cm) hr (by rw [hq.2.1]; exact hlt) (fun i _ => by rw [hq.2.1]; exact hlg i) (by rw [hq.2.1]; exact hq.2.2.2.1)
            rw [hq.2.1] at hd
            have := ask_does rep hG hm' hd (h4.stp hs') hk rfl (by simp [St.done, hq.2.1]; omega) (by have := hq.2.2.2.2; rw [h3.sn] at this; simp only [St.done]; omega)
            simpa [St.done, hq.2.1] using this)
        rw [h1] at this
        refine this.mono ?_
        rintro e w' ⟨rfl, c', L', st', hL', hm', hq, hs'⟩
        have hd := inv_done hq.1 hk (s := s) (cm := cm) hr (by rw [hq.2.1]; exact hlt) (fun i _ => by rw [hq.2.1]; exact hlg i) (by rw [hq.2.1]; exact hq.2.2.2.1)
        rw [hq.2.1] at hd
        have hda := hd.asked hk
        have e : (st'.done k ⟨k, (own st.tr k).length + 1, s, cm, own st.tr k⟩).tr = st.tr ++ [(⟨k, (own st.tr k).length + 1, s, cm, own st.tr k⟩ : Dn)] := by simp [St.done, hq.2.1]
        rw [e] at hda
        refine ⟨rfl, c', L', _, hL', hm', ?_, h4.stp hs', ?_, ?_⟩
        · show Inv n (logOf (st'.done k ⟨k, (own st.tr k).length + 1, s, cm, own st.tr k⟩).tr) _
          rw [e]; exact hda
        · show (st'.tr ++ [_]).length ≤ _
          rw [hq.2.1]; simp; omega
        · have := hq.2.2.2.2
          rw [h3.sn] at this
          simp [St.asked, St.done]; omega

end
end Go.Proofs.YtckmppkdpnhodaaGreatDoor

namespace Go.Proofs.YtckmppkdpnhodaaGreatDoor
set_option linter.unusedVariables false
set_option linter.unusedSimpArgs false
open Go.RowKit Go.Proofs

theorem ScriptAt.below {w w' : World} {p : Option Addr} {sc : List Sp} (h : ScriptAt w p sc) (hb : Below w.heap.size w w') : ScriptAt w' p sc := fun i o ho => by
  obtain ⟨b, off, h1, h2, h3, h4, h5, h6⟩ := h i o ho
  exact ⟨b, off, h1, cell_below hb h2, cell_below hb h3, cell_below hb h4, cell_below hb h5, cell_below hb h6⟩

theorem inv_begun {n : Nat} (hn : 2 ≤ n ∧ n ≤ 5) (rbs : List Nat) : Inv n (logOf (St.begun n rbs).tr) (St.begun n rbs) := by
  have ho : ∀ i, own ([] : List Dn) i = [] := fun i => rfl
  refine ⟨rfl, hn, by simp [St.begun], fun e he => by simp [St.begun] at he, Deaf.nil n, fun i hi => ?_, fun i hi => ?_, fun i hi => ?_, fun i hi => ?_⟩
  · simp [St.begun, logOf, ho, hi]
  · simp [St.begun, ho, hi]
  · simp [St.begun, ho]
  · exact ⟨0, Nat.zero_le _, by simp [St.begun, ho, hi], .inl (by simp [St.begun, hi])⟩

section
variable {R : World → Nat → Nat → Nat → List Cm → (Nat → Prop) → Prop} {G : World → Prop} {w0 : World}

theorem kept_between {n wb T B : Nat} {W : World} (h : Between R w0 n wb T B W) (hB : B ≤ 50000000000) :
    Calls Tryz.prog 34 #[.pointer (some ⟨wb, 8, none⟩)] W fun e w' => e = .returned (.bool true) ∧ Below w0.heap.size w0 w' := by
  obtain ⟨c, L, st, h1, h2, h3, h4, h5, h6⟩ := h
  have hc := h2.cell
  rw [h1] at hc
  have lus : L.us.length = st.bk.length := by simpa using h2.orow.1
  refine (kept_any wb L.osv L.kov st.bk W (by rw [hc]; simp [Lay.C]) (by rw [hc]; simp [Lay.C]) (by rw [hc]; simp [Lay.C]) (by rw [hc]; simp [Lay.C]) ?_ ?_ (by unfold maxLen; omega) (fun e he => by have := h3.bks e he; unfold maxLen; omega)).mono ?_
  · rcases id h2.orow.2 with ⟨hv, h0⟩ | ⟨g, cap, cur, hv, -⟩
    · exact ⟨none, 0, by rw [hv, h0], fun i e he => by have := (List.getElem?_eq_some_iff.1 he).1; omega⟩
    · refine ⟨some ⟨g, 0, none⟩, cap, hv, fun i e he => ?_⟩
      obtain ⟨hi, rfl⟩ := List.getElem?_eq_some_iff.1 he
      have hi' : i < L.us.length := by omega
      have hcell := h2.orow.cells (g := g) (by rw [hv]; rfl) i L.us[i] (List.getElem?_eq_getElem hi')
      rw [Addr.add_mid, Nat.zero_add] at hcell
      exact ⟨g, L.us[i], rfl, hcell, (h2.marks i hi hi').1⟩
  · rcases id h2.krow.2 with ⟨hv, h0⟩ | ⟨g, cap, cur, hv, -⟩
    · exact ⟨none, 0, by rw [hv, h0], fun i e he => by have := (List.getElem?_eq_some_iff.1 he).1; omega⟩
    · refine ⟨some ⟨g, 0, none⟩, cap, hv, fun i e he => ?_⟩
      obtain ⟨hi, rfl⟩ := List.getElem?_eq_some_iff.1 he
      have hcell := h2.krow.cells (g := g) (by rw [hv]; rfl) i (.int .i64 st.bk[i].2) (by simp [hi])
      rw [Addr.add_mid, Nat.zero_add] at hcell
      exact ⟨g, rfl, hcell⟩
  · rintro e w' ⟨rfl, hb⟩
    exact ⟨rfl, (h4.below hb).bel⟩

theorem alone_rep (rep : Rep R G) (hG : ∀ W, Below w0.heap.size w0 W → G W) {n : Int} {p : Option Addr} {cap : Nat} {sc : List Sp} (hn : -9223372036854775808 ≤ n ∧ n ≤ 9223372036854775807) (hl : sc.length ≤ 1000000000)
    (hok : ∀ o ∈ sc, o.ok ∧ (-9223372036854775808 ≤ o.A ∧ o.A ≤ 9223372036854775807) ∧ o.S.size ≤ maxLen) (hsc : ScriptAt w0 p sc) :
    Calls Tryz.prog 3 #[.int .i64 n, .slice p sc.length cap] w0 fun e w' => e = .returned (.bool true) ∧ Below w0.heap.size w0 w' := by
  have hp4 : (pickN n 4 : Int) < 4 := pickN_lt (by omega)
  have hN : 2 ≤ 2 + pickN n 4 ∧ 2 + pickN n 4 ≤ 5 := ⟨by omega, by omega⟩
  refine alone_any (plays_any hn (by unfold maxLen; omega) (fun o ho => (hok o ho).1) (fun k wb W => Between R w0 (2 + pickN n 4) wb (k + 1) (28 * (k + 1)) W) (fun w' => Below w0.heap.size w0 w') ?_ ?_ ?_ ?_ ?_ ?_)
  · rintro k wb W ⟨c, L, st, h1, h2, h3, h4, h5, h6⟩
    refine ⟨hsc.below h4.bel, ?_⟩
    rw [← h1, h2.cell, h3.sn]; simp [Lay.C]
  · refine (begun_any rep.loc hN (rep.new _ hN) w0).mono ?_
    rintro e w' ⟨c, L, rbs, rfl, hm, hb, hc⟩
    refine ⟨L.wb, rfl, ?_⟩
    have hbt : Between R w0 (2 + pickN n 4) L.wb 0 0 w' := ⟨c, L, _, rfl, hm, inv_begun hN rbs, ⟨hb, hc⟩, by simp [St.begun], by simp [St.begun]⟩
    exact does_between rep hG hbt (k := 0) (by omega) (by omega) (by omega) teaB (by unfold maxLen; decide)
  · intro k wb W hk hI hle
    obtain ⟨⟨hK1, hK2⟩, hA, hS⟩ := hok sc[k] (List.getElem_mem hk)
    have hI' := hI
    obtain ⟨c, L, st, h1, h2, h3, -⟩ := hI'
    have r0 : W.cell? ⟨wb, 0, none⟩ = some (.int .i64 ((2 + pickN n 4 : Nat) : Int)) := by rw [← h1, h2.cell, h3.sn]; simp [Lay.C]
    have hpk : pickN sc[k].A (2 + pickN n 4) < 2 + pickN n 4 := by
      have : (pickN sc[k].A (2 + pickN n 4) : Int) < ((2 + pickN n 4 : Nat) : Int) := pickN_lt (by omega)
      omega
    rcases (show pickN sc[k].K 12 = 0 ∨ pickN sc[k].K 12 = 1 ∨ pickN sc[k].K 12 = 2 by omega) with e | e | e
    · exact step_do hN r0 ⟨hK1, hK2⟩ hA e _ fun W' hb => (does_between rep hG (hI.below rep hb) hpk (by omega) (by omega) sc[k].S hS).mono fun e w' ⟨he, hb'⟩ => ⟨he, hb'.mono (by omega) (by omega)⟩
    · exact step_view hN r0 ⟨hK1, hK2⟩ hA e _ fun W' hb => (views_between rep hG (hI.below rep hb) hpk (by omega) (by omega)).mono fun e w' ⟨he, hb'⟩ => ⟨he, hb'.mono (by omega) (by omega)⟩
    · exact step_known hN r0 ⟨hK1, hK2⟩ hA e _ fun W' hb => (asks_between rep hG (hI.below rep hb) hpk (by omega) (by omega)).mono fun e w' ⟨he, hb'⟩ => ⟨he, hb'.mono (by omega) (by omega)⟩
  · intro k wb W hk hI _
    exact hI.mono (by omega) (by omega)
  · intro k wb W hk hI
    exact (views_between rep hG hI hk (by omega) (by omega)).mono fun e w' ⟨he, hb'⟩ => ⟨he, hb'.mono (by omega) (by omega)⟩
  · intro wb W hI
    exact kept_between hI (by omega)
end
end Go.Proofs.YtckmppkdpnhodaaGreatDoor

namespace Go.Proofs.YtckmppkdpnhodaaGreatDoor
set_option linter.unusedVariables false
set_option linter.unusedSimpArgs false
abbrev muLink : Go.Conc.Locks.MuLink := { lock := 44, unlock := 45, ilock := 78, iunlock := 79, lockSlow := 121, unlockSlow := 124, disable := 117, enable := 119, acquire := 120, relMerge := 122, cas32 := 118, add32 := 123, tMutex := 100, tIMutex := 98, tPMutex := 164, tPIMutex := 214, tPI32 := 216, tUP := 218, tNoCopy := 95, tU32 := 96 }
theorem muLib : Go.Conc.Locks.MuLib Tryz.prog muLink :=
  ⟨Tryz.func44, Tryz.func45, Tryz.func78, Tryz.func79, Tryz.func117, Tryz.func119, Tryz.func120, Tryz.func122, Tryz.func118, Tryz.func123, Tryz.underlying98, Tryz.runUnderlying98, Tryz.sizeOf98, Tryz.isAgg98, Tryz.zeroValue98, Tryz.underlying100, Tryz.runUnderlying100, Tryz.sizeOf100, Tryz.isAgg100, Tryz.zeroValue100, Tryz.underlying164, Tryz.runUnderlying164, Tryz.sizeOf164, Tryz.isAgg164, Tryz.zeroValue164, Tryz.underlying214, Tryz.runUnderlying214, Tryz.sizeOf214, Tryz.isAgg214, Tryz.zeroValue214, Tryz.underlying216, Tryz.runUnderlying216, Tryz.sizeOf216, Tryz.isAgg216, Tryz.zeroValue216, Tryz.underlying218, Tryz.runUnderlying218, Tryz.sizeOf218, Tryz.isAgg218, Tryz.zeroValue218, Tryz.underlying95, Tryz.runUnderlying95, Tryz.sizeOf95, Tryz.isAgg95, Tryz.zeroValue95, Tryz.underlying21, Tryz.runUnderlying21, Tryz.sizeOf21, Tryz.isAgg21, Tryz.zeroValue21, (by kernel_rfl)⟩
end Go.Proofs.YtckmppkdpnhodaaGreatDoor
