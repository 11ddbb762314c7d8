/-
  (*Replica).Receive over whatever bytes.
-/
import Derived.Test.YtckmppkdpnhodaaGreatDoorT37
import Derived.Test.YtckmppkdpnhodaaGreatDoorT31
namespace Go.Proofs.YtckmppkdpnhodaaGreatDoor
set_option linter.unusedVariables false
set_option linter.unusedSimpArgs false
open Go.RowKit Go.Proofs Go.MuLone

theorem bytes_lockX {w : World} {rb c : Nat} {p : Option Addr} {f : List UInt8} (h : BytesAt w (.slice p f.length c) f) (hz : ∀ (i : Nat) (x : UInt8), f[i]? = some x → ∀ b o, p = some ⟨b, o, none⟩ → b ≠ rb) (v : Value) : BytesAt (w.setCell ⟨rb, 0, none⟩ v) (.slice p f.length c) f := by
  obtain ⟨p', c', h1, h2⟩ := h
  simp only [Value.slice.injEq, true_and] at h1
  obtain ⟨rfl, rfl⟩ := h1
  refine ⟨_, _, rfl, fun i x hx => ?_⟩
  obtain ⟨b', o', h3, h4⟩ := h2 i x hx
  exact ⟨b', o', h3, (World.cell?_of_block (a := ⟨b', o' + i, none⟩) (Below.heap_setCell _ _ _ _ (hz i x hx b' o' h3))).trans h4⟩

/-- What a letter that is taken may tell. -/
structure LetAny (n me : Nat) (log : List En) (a h : Nat) (es : List En) : Prop where
  la : a < n
  ne : a ≠ me
  lh : h ≤ cntL log me
  len : es.length ≤ 201
  en : EnAny a es

/-- What Receive leaves, of whatever bytes. -/
def RcvP (f : List UInt8) (w : World) (rb n me : Nat) (log : List En) (now : Nat) (its : List It) (ow : Nat → Bool) (ev wv : Value) (w' : World) : Prop :=
  Below w.heap.size w w' ∨ ∃ a b h es, (b = me ∧ okB f = true ∧ LetAny n me log a h es) ∧ ∃ ev' wv' its', RepQ w' rb n me 0 (learnAll log es) now its' (oweL ow a es) ev' wv' ∧ its'.Perm (keepL a h its) ∧ (∀ b, ev'.ownBlock = some b → ev.ownBlock = some b ∨ w.heap.size ≤ b) ∧ wv'.ownBlock = wv.ownBlock ∧ Upd [some rb, ev.ownBlock, wv.ownBlock] w w'

set_option maxRecDepth 100000 in
set_option maxHeartbeats 8000000 in
theorem receiveX {w : World} {rb n me : Nat} {log : List En} {now : Nat} {its : List It} {ow : Nat → Bool} {ev wv : Value} (hv : VerbsAt w) (hR : RemAt w) (hG : 1 < w.heap.size) (hrG : rb ≠ 1) (hm : RepQ w rb n me 0 log now its ow ev wv) (hme : me < 5) (h8 : log.length ≤ 4294960000) (hl : its.length ≤ 1000) (p : Option Addr) (c : Nat) (f : List UInt8) (hc : f.length ≤ c) (hfl : f.length ≤ 1000000000) (hc9 : c ≤ 9223372036854775807) (hz : ∀ (i : Nat) (x : UInt8), f[i]? = some x → ∀ b o, p = some ⟨b, o, none⟩ → b ≠ rb) (hb : BytesAt w (.slice p f.length c) f) (fr : Int) :
    Calls Tryz.prog 30 #[.pointer (some ⟨rb, 0, none⟩), .int .i64 fr, .slice p f.length c] w fun e w' => e = .returned (.tuple #[]) ∧ RcvP f w rb n me log now its ow ev wv w' := by
  have hrl := hm.lt
  have c0 := hm.c0
  have f0 := hm.f 0
  have HK : Hid (RepQ w rb n me 0 log now its ow ev wv) := hm
  have HR : Hid (Calls Tryz.prog 59 #[.slice p f.length c] (w.setCell ⟨rb, 0, none⟩ (.int .i32 1)) fun e w' => ∃ (a b h l c' : Nat) (p' : Option Addr) (ok : Bool), e = .returned (.tuple #[.agg #[.int .i64 (a : Int), .int .i64 (b : Int), .int .i64 (h : Int), .slice p' l c'], .bool ok]) ∧ Hid (ok = true → okB f = true ∧ ∃ es : List En, l = es.length ∧ a < 5 ∧ es.length ≤ 201 ∧ EnAny a es ∧ w'.ownsRow w.heap.size 122 10 (.slice p' l c') es.length (enRow es)) ∧ Below w.heap.size (w.setCell ⟨rb, 0, none⟩ (.int .i32 1)) w') := by
    have hbad := readG_bad p c f hc hfl hc9 (w.setCell ⟨rb, 0, none⟩ (.int .i32 1)) (bytes_lockX hb hz _) (rem_lock hR hrG _) (by rw [size_setCell]; exact hG)
    rw [size_setCell] at hbad
    have := readX p c f hc hfl hc9 (w.setCell ⟨rb, 0, none⟩ (.int .i32 1)) (bytes_lockX hb hz _) (rem_lock hR hrG _) (by rw [size_setCell]; exact hG) (hv.lock (hm.ne0 hv) _ _)
    rw [size_setCell] at this
    cases hok : okB f with
    | false =>
      refine (hbad hok).mono ?_
      rintro e w' ⟨h1, h2⟩
      exact ⟨0, 0, 0, 0, 0, none, false, h1, fun e => by simp at e, h2⟩
    | true =>
    refine this.mono ?_
    rintro e w' ⟨h1 | ⟨a, b, h, ev', es, q1, q2, q3, q4, q5, q6, q7⟩, h2⟩
    · exact ⟨0, 0, 0, 0, 0, none, false, h1, fun e => by simp at e, h2⟩
    · rw [size_setCell] at q7
      obtain ⟨p', c', rfl⟩ := own_form q7
      exact ⟨a, b, h, es.length, c', p', true, q1, fun _ => ⟨rfl, es, rfl, q2, q5, q6, q7⟩, h2⟩
  have HI : Hid (∀ W, Below w.heap.size (w.setCell ⟨rb, 0, none⟩ (.int .i32 1)) W → ∀ a b h p l c', Calls Tryz.prog 60 #[.pointer (some ⟨rb, 0, none⟩), .agg #[.int .i64 ((a : Nat) : Int), .int .i64 ((b : Nat) : Int), .int .i64 ((h : Nat) : Int), .slice p l c'], .int .i64 fr] W fun e w' => e = .returned (.bool (isMy n me log a b h fr)) ∧ Below W.heap.size W w') := fun W hW a b h p l c' => isMineG ((hm.lock 1).below (by rw [size_setCell]; exact hW)) hme a b h p l c' fr
  clear hm hR hb hv
  go_enter_defers Tryz.func30, Tryz.ntmps30
  go_upto_region 3 with (first
    | (go_at_call 44; refine (lock_free muLib ⟨rb, 0, none⟩ _ c0 f0).mono ?_; rintro e w' ⟨rfl, rfl⟩)
    | (go_at_call 59; refine HR.out.mono ?_; rintro e w2 ⟨a, b, h, l, cl, pl, ok, rfl, HES, hb⟩; have hb3 : ∀ o, Below w.heap.size (w.setCell ⟨rb, 0, none⟩ (.int .i32 1)) (w2.alloc o) := fun o => hb.alloc (by have := hb.size; rw [size_setCell] at this; exact this) o))
  cases ok with
  | false =>
    clear HES HI HR
    go_wp2
    have hk2 := (HK.out.lock 1).below (by rw [size_setCell]; exact hb3 (.cells #[.int .i64 (a : Int), .int .i64 (b : Int), .int .i64 (h : Int), .slice pl l cl] 140))
    refine leaves_cons (f := 45) (args := #[.pointer (some ⟨rb, 0, none⟩)]) (by simp) (by simp [go_sem]) ?_
    refine (unlock_deferred muLib ⟨rb, 0, none⟩ .returning _ hk2.c0 (hk2.f 0)).mono ?_
    rintro e u' w'' ⟨rfl, rfl, rfl⟩
    exact ⟨_, results_none rfl _ _ _, rfl, .inl (HK.out.relock (hb3 _))⟩
  | true =>
    obtain ⟨hob, es, rfl, ha5, hes, hea, hrow⟩ := HES.out rfl
    have HOB : Hid (okB f = true) := hob
    have HRW : Hid (w2.ownsRow w.heap.size 122 10 (.slice pl es.length cl) es.length (enRow es)) := hrow
    have HEA : Hid (EnAny a es) := hea
    clear HES hrow hea HR hob
    cases hmy : isMy n me log a b h fr with
    | false =>
      have HI2 : Hid (∀ W, Below w.heap.size (w.setCell ⟨rb, 0, none⟩ (.int .i32 1)) W → ∀ p l c', Calls Tryz.prog 60 #[.pointer (some ⟨rb, 0, none⟩), .agg #[.int .i64 (a : Int), .int .i64 (b : Int), .int .i64 (h : Int), .slice p l c'], .int .i64 fr] W fun e w' => e = .returned (.bool false) ∧ Below W.heap.size W w') := fun W hW p l c' => by
        have := HI.out W hW a b h p l c'
        rwa [hmy] at this
      clear hmy HI HRW HEA
      go_wp2_with (go_at_call 60; refine (HI2.out _ (hb3 _) _ _ _).mono ?_; rintro e w4 ⟨rfl, hb4⟩; have hb5 : Below w.heap.size (w.setCell ⟨rb, 0, none⟩ (.int .i32 1)) w4 := (hb3 _).trans (hb4.mono (by have := (hb3 (.map #[] 0)).size; rw [size_setCell] at this; simpa using this)))
      have hk2 := (HK.out.lock 1).below (by rw [size_setCell]; exact hb5)
      refine leaves_cons (f := 45) (args := #[.pointer (some ⟨rb, 0, none⟩)]) (by simp) (by simp [go_sem]) ?_
      refine (unlock_deferred muLib ⟨rb, 0, none⟩ .returning _ hk2.c0 (hk2.f 0)).mono ?_
      rintro e u' w'' ⟨rfl, rfl, rfl⟩
      exact ⟨_, results_none rfl _ _ _, rfl, .inl (HK.out.relock hb5)⟩
    | true =>
      have HI2 : Hid (∀ W, Below w.heap.size (w.setCell ⟨rb, 0, none⟩ (.int .i32 1)) W → ∀ p l c', Calls Tryz.prog 60 #[.pointer (some ⟨rb, 0, none⟩), .agg #[.int .i64 (a : Int), .int .i64 (b : Int), .int .i64 (h : Int), .slice p l c'], .int .i64 fr] W fun e w' => e = .returned (.bool true) ∧ Below W.heap.size W w') := fun W hW p l c' => by
        have := HI.out W hW a b h p l c'
        rwa [hmy] at this
      obtain ⟨m1, m2, m3, m4, m5⟩ := of_decide_eq_true hmy
      obtain rfl : fr = (a : Int) := by omega
      have HFA : Hid (b = me ∧ okB f = true ∧ LetAny n me log a h es) := ⟨by omega, HOB.out, by omega, by omega, by omega, by omega, HEA.out⟩
      clear hmy HI HEA m1 m2 m3 m4 m5
      go_upto_region 4 with (go_at_call 60; refine (HI2.out _ (hb3 _) _ _ _).mono ?_; rintro e w4 ⟨rfl, hb4⟩; have hb5 : Below w.heap.size (w.setCell ⟨rb, 0, none⟩ (.int .i32 1)) w4 := (hb3 _).trans (hb4.mono (by have := (hb3 (.map #[] 0)).size; rw [size_setCell] at this; simpa using this)))
      have hs2 : w.heap.size ≤ w2.heap.size := by have := hb.size; rwa [size_setCell] at this
      have hl4 : w4.heap[w2.heap.size]? = some (.cells #[.int .i64 (a : Int), .int .i64 (b : Int), .int .i64 (h : Int), .slice pl es.length cl] 140 (0, 0)) := (hb4.block _ (by simp)).trans (heap_alloc_new w2 _)
      have hs4 : w2.heap.size < w4.heap.size := (Array.getElem?_eq_some_iff.1 hl4).1
      have hr4 := (HK.out.lock 1).below (by rw [size_setCell]; exact hb5)
      have hrow4 : w4.ownsRow w.heap.size 122 10 (.slice pl es.length cl) es.length (enRow es) := (Upd.of_below (S := []) hb4).owns ((Upd.alloc (Upd.refl [] w2) _).owns HRW.out (by simp)) (by simp)
      have hrl2 : ∀ b, (Value.slice pl es.length cl).ownBlock = some b → b < w2.heap.size := fun b hb => (HRW.out.lt b hb).2
      have hwl : ∀ b, wv.ownBlock = some b → b < w.heap.size := fun b hb => (HK.out.wrow.lt b hb).2
      have hel : ∀ b, ev.ownBlock = some b → b < w.heap.size := fun b hb => (HK.out.erow.lt b hb).2
      have hu0 : Upd [some rb, ev.ownBlock, wv.ownBlock] w (w.setCell ⟨rb, 0, none⟩ (.int .i32 1)) := (Upd.refl _ w).setCell (.inl (by simp)) _
      have hu4 : Upd [some rb, ev.ownBlock, wv.ownBlock] w w4 := hu0.trans (Upd.of_below (S := []) (by rw [size_setCell]; exact hb5)) (by simp)
      clear hb hb3 hb4 hb5 HI2 HRW c0 f0 hu0
      generalize hlbd : w2.heap.size = lb at *
      have HKN : Hid (Calls Tryz.prog 61 #[.pointer (some ⟨rb, 10, none⟩), .int .i64 (a : Int), .int .i64 (h : Int)] w4.drew fun e w' => e = .returned (.tuple #[]) ∧ (fun w' : World => w'.heap[lb]? = some (.cells #[.int .i64 (a : Int), .int .i64 (b : Int), .int .i64 (h : Int), .slice pl es.length cl] 140 (0, 0))) w' ∧ Hid (∃ its' wv', its'.Perm (keepL a h its) ∧ wv'.ownBlock = wv.ownBlock ∧ RcvI w rb n me log now its' ow ev wv wv' lb #[.int .i64 (a : Int), .int .i64 (b : Int), .int .i64 (h : Int), .slice pl es.length cl] (.slice pl es.length cl) es 0 ev w')) := by
        have hd : RepQ w4.drew rb n me 1 log now its ow ev wv := hr4.below (Below.refl _ w4).drew
        refine (boxKnownR hd hl a h).mono ?_
        rintro e w' ⟨rfl, its', wv', q1, q2, q3, q4⟩
        have q4' : Upd [some rb, wv.ownBlock] w4 w' := ⟨q4.os, q4.tape, q4.output, q4.size, q4.block⟩
        have ne : ∀ b, w.heap.size ≤ b → some b ∉ [some rb, wv.ownBlock] := fun b hb hm => by
          simp only [List.mem_cons, List.not_mem_nil, or_false, Option.some.injEq] at hm
          rcases hm with e | e
          · omega
          · have := hwl b e.symm; omega
        have hlt : w'.heap[lb]? = some (.cells #[.int .i64 (a : Int), .int .i64 (b : Int), .int .i64 (h : Int), .slice pl es.length cl] 140 (0, 0)) := (q4'.block lb hs4 (ne lb hs2)).trans hl4
        refine ⟨rfl, hlt, its', wv', q2, q3, ⟨by simpa [learnAll] using q1, fun b hb => ⟨.inl hb, fun e => ?_, ?_⟩, hlt, q4'.owns hrow4 fun b hb => ne b (own_ge hrow4 hb), hu4.trans q4' fun i hi => .inl (by
          simp only [List.mem_cons, List.not_mem_nil, or_false] at hi ⊢
          rcases hi with e | e
          · exact .inl e
          · exact .inr (.inr e))⟩⟩
        · have := own_ge hrow4 e; have := hel b hb; omega
        · have := hel b hb; omega
      have hS : (fun w' : World => w'.heap[lb]? = some (.cells #[.int .i64 (a : Int), .int .i64 (b : Int), .int .i64 (h : Int), .slice pl es.length cl] 140 (0, 0))) w4.drew := hl4
      have hmx : Tryz.prog.follows .mixedOrders = true := by kernel_rfl
      clear hr4 hrow4 hu4 hl4
      refine wp_region_noPanic ?_
      refine wp_region_held (S := (fun w' : World => w'.heap[lb]? = some (.cells #[.int .i64 (a : Int), .int .i64 (b : Int), .int .i64 (h : Int), .slice pl es.length cl] 140 (0, 0)))) hmx ?_
      refine wpAnyH_take (i := 0) (v := (.pointer (some ⟨rb, 0, none⟩))) rfl (by kernel_rfl) (by kernel_rfl) (by kernel_rfl) (fun _ _ _ h => h) (Or.inl ⟨by rfl, ?_⟩) hS ?_
      · intro W hSw
        have s2 : W.cell? ⟨lb, 2, none⟩ = some (.int .i64 (h : Int)) := by rw [cell_of_heap hSw]; rfl
        go_simp
      dsimp only [List.getElem_toArray, List.getElem_cons_zero, List.getElem_cons_succ]
      simp only [Act.put, List.setIfInBounds_toArray, List.set_cons_zero, List.set_cons_succ]
      refine wpAnyH_take (i := 1) (v := (.pointer (some ⟨rb, 0, none⟩))) rfl (by kernel_rfl) (by kernel_rfl) (by kernel_rfl) (fun _ _ _ h => h) (Or.inl ⟨by rfl, ?_⟩) hS ?_
      · intro W hSw
        have s2 : W.cell? ⟨lb, 2, none⟩ = some (.int .i64 (h : Int)) := by rw [cell_of_heap hSw]; rfl
        go_simp
      dsimp only [List.getElem_toArray, List.getElem_cons_zero, List.getElem_cons_succ]
      simp only [Act.put, List.setIfInBounds_toArray, List.set_cons_zero, List.set_cons_succ]
      refine wpAnyH_take (i := 2) (v := (.pointer (some ⟨rb, 10, none⟩))) rfl (by kernel_rfl) (by kernel_rfl) (by kernel_rfl) (fun _ _ _ h => h) (Or.inl ⟨by rfl, ?_⟩) hS ?_
      · intro W hSw
        have s2 : W.cell? ⟨lb, 2, none⟩ = some (.int .i64 (h : Int)) := by rw [cell_of_heap hSw]; rfl
        go_simp
      dsimp only [List.getElem_toArray, List.getElem_cons_zero, List.getElem_cons_succ]
      simp only [Act.put, List.setIfInBounds_toArray, List.set_cons_zero, List.set_cons_succ]
      refine wpAnyH_take (i := 3) (v := (.int .i64 (a : Int))) rfl (by kernel_rfl) (by kernel_rfl) (by kernel_rfl) (fun _ _ _ h => h) (Or.inl ⟨by rfl, ?_⟩) hS ?_
      · intro W hSw
        have s2 : W.cell? ⟨lb, 2, none⟩ = some (.int .i64 (h : Int)) := by rw [cell_of_heap hSw]; rfl
        go_simp
      dsimp only [List.getElem_toArray, List.getElem_cons_zero, List.getElem_cons_succ]
      simp only [Act.put, List.setIfInBounds_toArray, List.set_cons_zero, List.set_cons_succ]
      refine wpAnyH_take (i := 4) (v := (.pointer (some ⟨lb, 2, none⟩))) rfl (by kernel_rfl) (by kernel_rfl) (by kernel_rfl) (fun _ _ _ h => h) (Or.inl ⟨by rfl, ?_⟩) hS ?_
      · intro W hSw
        have s2 : W.cell? ⟨lb, 2, none⟩ = some (.int .i64 (h : Int)) := by rw [cell_of_heap hSw]; rfl
        go_simp
      dsimp only [List.getElem_toArray, List.getElem_cons_zero, List.getElem_cons_succ]
      simp only [Act.put, List.setIfInBounds_toArray, List.set_cons_zero, List.set_cons_succ]
      refine wpAnyH_take (i := 5) (v := (.int .i64 (h : Int))) rfl (by kernel_rfl) (by kernel_rfl) (by kernel_rfl) (fun _ _ _ h => h) (Or.inl ⟨by rfl, ?_⟩) hS ?_
      · intro W hSw
        have s2 : W.cell? ⟨lb, 2, none⟩ = some (.int .i64 (h : Int)) := by rw [cell_of_heap hSw]; rfl
        go_simp
      dsimp only [List.getElem_toArray, List.getElem_cons_zero, List.getElem_cons_succ]
      simp only [Act.put, List.setIfInBounds_toArray, List.set_cons_zero, List.set_cons_succ]
      refine wpAnyH_ready (rs := [6]) (by kernel_rfl) (by simp) ?_
      refine AllReadyH.cons rfl (fun K hK => ?_) AllReadyH.nil
      rw [if_pos (by rfl)]
      dsimp only [List.getElem_toArray, List.getElem_cons_zero, List.getElem_cons_succ]
      go_simp
      refine HKN.out.mono ?_
      rintro e w6 ⟨rfl, hS6, HK6⟩
      refine hK.out _ _ hS6 (fun _ => ?_)
      clear hK K
      try simp only [Act.put, List.setIfInBounds_toArray, List.set_cons_zero, List.set_cons_succ]
      refine wpAnyH_done (by kernel_rfl) ?_ _
      refine NoPanic.normal ?_
      obtain ⟨its1, wv1, hp1, hw1, hI1⟩ := HK6.out
      have HP1 : Hid (its1.Perm (keepL a h its) ∧ wv1.ownBlock = wv.ownBlock) := ⟨hp1, hw1⟩
      have HI1 : Hid (RcvI w rb n me log now its1 ow ev wv wv1 lb #[.int .i64 (a : Int), .int .i64 (b : Int), .int .i64 (h : Int), .slice pl es.length cl] (.slice pl es.length cl) es 0 ev w6) := hI1
      have l3 : w6.cell? ⟨lb, 3, none⟩ = some (.slice pl es.length cl) := by rw [cell_of_heap hS6]; rfl
      clear HK6 hp1 hw1 hI1 HKN hS
      go_wp2
      go_loopw [41] (fun v wr => ∃ (k : Nat) (ev' : Value), k ≤ es.length ∧ v = .int .i64 (k : Int) ∧ Hid (RcvI w rb n me log now its1 ow ev wv wv1 lb #[.int .i64 (a : Int), .int .i64 (b : Int), .int .i64 (h : Int), .slice pl es.length cl] (.slice pl es.length cl) es k ev' wr)) (fun v _ => es.length - (intOf v).toNat)
      case atStart => exact ⟨0, ev, by omega, rfl, HI1⟩
      case round =>
        obtain ⟨k, ev', hk, rfl, HJ⟩ := hrel
        by_cases hlt : k < es.length
        · obtain ⟨g, cp, hgv, hgl, d0, d1, d2, d3, d4, d5, d6, d7, d8, d9⟩ := en_cells HJ.out.row hlt
          simp only [Value.slice.injEq, true_and] at hgv
          obtain ⟨rfl, rfl⟩ := hgv
          have hks : (k : Int) < (es.length : Int) := by omega
          have HLN : Hid (∀ W', Below wr.heap.size wr W' → Calls Tryz.prog 62 #[.pointer (some ⟨rb, 4, none⟩), es[k].val] W' fun e w' => e = .returned (.tuple #[]) ∧ (∀ b C T, wr.heap.size ≤ b → W'.heap[b]? = some (.cells C T (0, 0)) → w'.heap[b]? = some (.cells C T (0, 0))) ∧ ∃ ev2, Hid (RcvI w rb n me log now its1 ow ev wv wv1 lb #[.int .i64 (a : Int), .int .i64 (b : Int), .int .i64 (h : Int), .slice (some ⟨g, 0, none⟩) es.length cl] (.slice (some ⟨g, 0, none⟩) es.length cl) es (k + 1) ev2 w')) := fun W' hW => HJ.out.learn hrl hs2 (by omega) hlt hW
          unfold En.val at HLN
          generalize es[k] = x at *
          go_upto_region 8 with fail
          obtain ⟨w3, hw3⟩ : ∃ w3, wr.alloc (.cells #[.int .i64 (x.org : Int), .int .i64 (x.seq : Int), .int .i64 (x.ah.a : Int), .int .i64 (x.ah.b : Int), .int .i64 (x.ah.c : Int), .int .i64 (x.ah.d : Int), .int .i64 (x.ah.e : Int), .int .i64 (x.c.k.num : Int), .string x.c.word, .int .i64 (x.c.count : Int)] 122) = w3 := ⟨_, rfl⟩
          have hb3 : w3.heap[wr.heap.size]? = some (.cells #[.int .i64 (x.org : Int), .int .i64 (x.seq : Int), .int .i64 (x.ah.a : Int), .int .i64 (x.ah.b : Int), .int .i64 (x.ah.c : Int), .int .i64 (x.ah.d : Int), .int .i64 (x.ah.e : Int), .int .i64 (x.c.k.num : Int), .string x.c.word, .int .i64 (x.c.count : Int)] 122 (0, 0)) := by rw [← hw3]; exact heap_alloc_new wr _
          have hbl3 : Below wr.heap.size wr w3 := by rw [← hw3]; exact (Below.refl _ wr).alloc (Nat.le_refl _) _
          rw [hw3]
          clear hw3 d0 d1 d2 d3 d4 d5 d6 d7 d8 d9
          have HL3 := HLN.out w3.drew hbl3.drew
          generalize hebd : wr.heap.size = eb at *
          have HLN3 : Hid (Calls Tryz.prog 62 #[.pointer (some ⟨rb, 4, none⟩), .agg #[.int .i64 (x.org : Int), .int .i64 (x.seq : Int), .int .i64 (x.ah.a : Int), .int .i64 (x.ah.b : Int), .int .i64 (x.ah.c : Int), .int .i64 (x.ah.d : Int), .int .i64 (x.ah.e : Int), .int .i64 (x.c.k.num : Int), .string x.c.word, .int .i64 (x.c.count : Int)]] w3.drew fun e w' => e = .returned (.tuple #[]) ∧ (fun w' : World => w'.heap[eb]? = some (.cells #[.int .i64 (x.org : Int), .int .i64 (x.seq : Int), .int .i64 (x.ah.a : Int), .int .i64 (x.ah.b : Int), .int .i64 (x.ah.c : Int), .int .i64 (x.ah.d : Int), .int .i64 (x.ah.e : Int), .int .i64 (x.c.k.num : Int), .string x.c.word, .int .i64 (x.c.count : Int)] 122 (0, 0))) w' ∧ ∃ ev2, Hid (RcvI w rb n me log now its1 ow ev wv wv1 lb #[.int .i64 (a : Int), .int .i64 (b : Int), .int .i64 (h : Int), .slice (some ⟨g, 0, none⟩) es.length cl] (.slice (some ⟨g, 0, none⟩) es.length cl) es (k + 1) ev2 w')) := by
            refine HL3.mono ?_
            rintro e w' ⟨h1, h2, h3⟩
            exact ⟨h1, h2 eb _ _ (Nat.le_refl _) hb3, h3⟩
          have hS8 : (fun w' : World => w'.heap[eb]? = some (.cells #[.int .i64 (x.org : Int), .int .i64 (x.seq : Int), .int .i64 (x.ah.a : Int), .int .i64 (x.ah.b : Int), .int .i64 (x.ah.c : Int), .int .i64 (x.ah.d : Int), .int .i64 (x.ah.e : Int), .int .i64 (x.c.k.num : Int), .string x.c.word, .int .i64 (x.c.count : Int)] 122 (0, 0))) w3.drew := hb3
          clear HL3 HLN hbl3
          refine wp_region_noPanic ?_
          refine wp_region_held (S := (fun w' : World => w'.heap[eb]? = some (.cells #[.int .i64 (x.org : Int), .int .i64 (x.seq : Int), .int .i64 (x.ah.a : Int), .int .i64 (x.ah.b : Int), .int .i64 (x.ah.c : Int), .int .i64 (x.ah.d : Int), .int .i64 (x.ah.e : Int), .int .i64 (x.c.k.num : Int), .string x.c.word, .int .i64 (x.c.count : Int)] 122 (0, 0)))) hmx ?_
          refine wpAnyH_take (i := 0) (v := (.pointer (some ⟨rb, 0, none⟩))) rfl (by kernel_rfl) (by kernel_rfl) (by kernel_rfl) (fun _ _ _ h => h) (Or.inl ⟨by rfl, ?_⟩) hS8 ?_
          · intro W hSw
            go_simp
          dsimp only [List.getElem_toArray, List.getElem_cons_zero, List.getElem_cons_succ]
          simp only [Act.put, List.setIfInBounds_toArray, List.set_cons_zero, List.set_cons_succ]
          refine wpAnyH_take (i := 1) (v := (.pointer (some ⟨rb, 0, none⟩))) rfl (by kernel_rfl) (by kernel_rfl) (by kernel_rfl) (fun _ _ _ h => h) (Or.inl ⟨by rfl, ?_⟩) hS8 ?_
          · intro W hSw
            go_simp
          dsimp only [List.getElem_toArray, List.getElem_cons_zero, List.getElem_cons_succ]
          simp only [Act.put, List.setIfInBounds_toArray, List.set_cons_zero, List.set_cons_succ]
          refine wpAnyH_take (i := 2) (v := (.pointer (some ⟨rb, 4, none⟩))) rfl (by kernel_rfl) (by kernel_rfl) (by kernel_rfl) (fun _ _ _ h => h) (Or.inl ⟨by rfl, ?_⟩) hS8 ?_
          · intro W hSw
            go_simp
          dsimp only [List.getElem_toArray, List.getElem_cons_zero, List.getElem_cons_succ]
          simp only [Act.put, List.setIfInBounds_toArray, List.set_cons_zero, List.set_cons_succ]
          refine wpAnyH_take (i := 3) (v := (.agg #[.int .i64 (x.org : Int), .int .i64 (x.seq : Int), .int .i64 (x.ah.a : Int), .int .i64 (x.ah.b : Int), .int .i64 (x.ah.c : Int), .int .i64 (x.ah.d : Int), .int .i64 (x.ah.e : Int), .int .i64 (x.c.k.num : Int), .string x.c.word, .int .i64 (x.c.count : Int)])) rfl (by kernel_rfl) (by kernel_rfl) (by kernel_rfl) (fun _ _ _ h => h) (Or.inl ⟨by rfl, ?_⟩) hS8 ?_
          · intro W hSw
            have s0 : W.cell? ⟨eb, 0, none⟩ = some (.int .i64 (x.org : Int)) := by rw [cell_of_heap hSw]; rfl
            have s1 : W.cell? ⟨eb, 1, none⟩ = some (.int .i64 (x.seq : Int)) := by rw [cell_of_heap hSw]; rfl
            have s2 : W.cell? ⟨eb, 2, none⟩ = some (.int .i64 (x.ah.a : Int)) := by rw [cell_of_heap hSw]; rfl
            have s3 : W.cell? ⟨eb, 3, none⟩ = some (.int .i64 (x.ah.b : Int)) := by rw [cell_of_heap hSw]; rfl
            have s4 : W.cell? ⟨eb, 4, none⟩ = some (.int .i64 (x.ah.c : Int)) := by rw [cell_of_heap hSw]; rfl
            have s5 : W.cell? ⟨eb, 5, none⟩ = some (.int .i64 (x.ah.d : Int)) := by rw [cell_of_heap hSw]; rfl
            have s6 : W.cell? ⟨eb, 6, none⟩ = some (.int .i64 (x.ah.e : Int)) := by rw [cell_of_heap hSw]; rfl
            have s7 : W.cell? ⟨eb, 7, none⟩ = some (.int .i64 (x.c.k.num : Int)) := by rw [cell_of_heap hSw]; rfl
            have s8 : W.cell? ⟨eb, 8, none⟩ = some (.string x.c.word) := by rw [cell_of_heap hSw]; rfl
            have s9 : W.cell? ⟨eb, 9, none⟩ = some (.int .i64 (x.c.count : Int)) := by rw [cell_of_heap hSw]; rfl
            go_simp
          dsimp only [List.getElem_toArray, List.getElem_cons_zero, List.getElem_cons_succ]
          simp only [Act.put, List.setIfInBounds_toArray, List.set_cons_zero, List.set_cons_succ]
          refine wpAnyH_ready (rs := [4]) (by kernel_rfl) (by simp) ?_
          refine AllReadyH.cons rfl (fun K hK => ?_) AllReadyH.nil
          rw [if_pos (by rfl)]
          dsimp only [List.getElem_toArray, List.getElem_cons_zero, List.getElem_cons_succ]
          go_simp
          refine HLN3.out.mono ?_
          rintro e w5 ⟨rfl, hS5, ev2, HN5⟩
          refine hK.out _ _ hS5 (fun _ => ?_)
          clear hK K
          try simp only [Act.put, List.setIfInBounds_toArray, List.set_cons_zero, List.set_cons_succ]
          refine wpAnyH_done (by kernel_rfl) ?_ _
          refine NoPanic.normal ?_
          go_wp2
          go_roundw
          case rel => exact ⟨k + 1, ev2, by omega, by go_num, HN5⟩
          case measure => simp [intOf]; omega
        · obtain rfl : k = es.length := by omega
          have l3r : wr.cell? ⟨lb, 3, none⟩ = some (.slice pl es.length cl) := by rw [cell_of_heap HJ.out.lt]; rfl
          have hrq := HJ.out.rep
          rw [List.take_length] at hrq
          have HEND : Hid (∀ (W : World) (ow' : Nat → Bool), RepQ W rb n me 1 (learnAll log es) now its1 ow' ev' wv1 → ow' = oweL ow a es → Upd [some rb, ev.ownBlock, wv.ownBlock] w W → ∃ ev' wv' its', RepQ (W.setCell ⟨rb, 0, none⟩ (.int .i32 0)) rb n me 0 (learnAll log es) now its' (oweL ow a es) ev' wv' ∧ its'.Perm (keepL a h its) ∧ (∀ b, ev'.ownBlock = some b → ev.ownBlock = some b ∨ w.heap.size ≤ b) ∧ wv'.ownBlock = wv.ownBlock ∧ Upd [some rb, ev.ownBlock, wv.ownBlock] w (W.setCell ⟨rb, 0, none⟩ (.int .i32 0))) := fun W ow' hr he hu => ⟨ev', wv1, its1, by rw [← he]; exact hr.lock 0, HP1.out.1, fun b hb => (HJ.out.own b hb).1, HP1.out.2, hu.setCell (.inl (by simp)) _⟩
          have HU : Hid (Upd [some rb, ev.ownBlock, wv.ownBlock] w wr) := HJ.out.upd
          have HRQ : Hid (RepQ wr rb n me 1 (learnAll log es) now its1 ow ev' wv1) := hrq
          clear hrq HJ
          rcases Nat.eq_zero_or_pos es.length with h0 | h0
          · have hn : es = [] := List.length_eq_zero_iff.1 h0
            have HX := HEND.out wr ow HRQ.out (by unfold oweL; rw [if_pos hn]) HU.out
            have HXH : Hid _ := HX
            clear HX HEND
            rw [h0] at l3r ⊢
            go_wp2
            refine leaves_cons (f := 45) (args := #[.pointer (some ⟨rb, 0, none⟩)]) (by simp) (by simp [go_sem]) ?_
            refine (unlock_deferred muLib ⟨rb, 0, none⟩ .returning _ HRQ.out.c0 (HRQ.out.f 0)).mono ?_
            rintro e u' w'' ⟨rfl, rfl, rfl⟩
            exact ⟨_, results_none rfl _ _ _, rfl, .inr ⟨a, b, h, es, HFA.out, HXH.out⟩⟩
          · have hpos : (0 : Int) < (es.length : Int) := by omega
            have HOW : Hid (Calls Tryz.prog 63 #[.pointer (some ⟨rb, 10, none⟩), .int .i64 (a : Int)] wr fun e w' => e = .returned (.tuple #[]) ∧ Hid (RepQ w' rb n me 1 (learnAll log es) now its1 (fun k => if k = a then true else ow k) ev' wv1 ∧ Upd [some rb] wr w')) := oweR HRQ.out ha5
            have HEO : Hid ((fun k => if k = a then true else ow k) = oweL ow a es) := by
              show _ = _
              unfold oweL
              rw [if_neg fun e => by rw [e] at h0; simp at h0]
            go_wp2_with (go_at_call 63; refine HOW.out.mono ?_; rintro e w8 ⟨rfl, HO8⟩)
            refine leaves_cons (f := 45) (args := #[.pointer (some ⟨rb, 0, none⟩)]) (by simp) (by simp [go_sem]) ?_
            refine (unlock_deferred muLib ⟨rb, 0, none⟩ .returning _ HO8.out.1.c0 (HO8.out.1.f 0)).mono ?_
            rintro e u' w'' ⟨rfl, rfl, rfl⟩
            exact ⟨_, results_none rfl _ _ _, rfl, .inr ⟨a, b, h, es, HFA.out, HEND.out w8 _ HO8.out.1 HEO.out (HU.out.trans HO8.out.2 fun i hi => .inl (by simp at hi; simp [hi]))⟩⟩

end Go.Proofs.YtckmppkdpnhodaaGreatDoor
