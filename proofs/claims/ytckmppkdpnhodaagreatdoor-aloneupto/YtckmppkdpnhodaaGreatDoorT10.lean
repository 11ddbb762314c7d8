/-
  Contract of cartelref.Read, in one form each for a command and for none; cartelref.decimal. Contracts of cartelref.stays, Number, Has.
-/
import Derived.Test.YtckmppkdpnhodaaGreatDoorT09
import Derived.Test.YtckmppkdpnhodaaGreatDoorT01
namespace Go.Proofs.YtckmppkdpnhodaaGreatDoor
set_option linter.unusedVariables false
set_option linter.unusedSimpArgs false
open Go.RowKit

theorem beq_bs {a b : ByteArray} (h : a = b) : (a.toList == b.toList) = true := by subst h; exact beq_self_eq_true _

theorem lit_add : (Kd.bs Go.Tcp.closed).toList = [97, 100, 100] := by simp [Kd.bs, ByteArray.toList_eq]
theorem lit_remove : (Kd.bs Go.Tcp.listen).toList = [114, 101, 109, 111, 118, 101] := by simp [Kd.bs, ByteArray.toList_eq]
theorem lit_apply : (Kd.bs Go.Tcp.established).toList = [97, 112, 112, 108, 121] := by simp [Kd.bs, ByteArray.toList_eq]
theorem lit_revoke : (Kd.bs Go.Tcp.finWait).toList = [114, 101, 118, 111, 107, 101] := by simp [Kd.bs, ByteArray.toList_eq]
theorem lit_note : (Kd.bs Go.Tcp.closeWait).toList = [110, 111, 116, 101] := by simp [Kd.bs, ByteArray.toList_eq]

section
variable (s : ByteArray) (w : World)

theorem read_both (hs : s.size ≤ maxLen) : Calls Tryz.prog 39 #[.string s] w fun e w' =>
    (match readC s with
    | some c => e = .returned (.tuple #[.agg #[.string c.k.bs, .string c.word, .int .i64 (c.count : Int)], .bool true])
    | none => ∃ (x y : ByteArray) (z : Int), e = .returned (.tuple #[.agg #[.string x, .string y, .int .i64 z], .bool false])) ∧ Below w.heap.size w w' := by
  have ht : Hid ((tailOf s).size ≤ maxLen) := Nat.le_trans (tailOf_size s) hs
  have hh : Hid ((headOf (tailOf s)).size ≤ maxLen) := Nat.le_trans (headOf_size _) ht.out
  have hl : Hid ((tailOf (tailOf s)).size ≤ maxLen) := Nat.le_trans (tailOf_size _) ht.out
  have hs' : Hid (s.size ≤ maxLen) := hs
  by_cases h1 : hasBlank s = true
  · by_cases h2 : wordB (headOf (tailOf s)) = true
    · by_cases h3 : headOf s = (Kd.bs Go.Tcp.closed)
      · have b3 : ((headOf s).toList == [97, 100, 100]) = true := by rw [← lit_add]; exact beq_bs h3
        by_cases h4 : hasBlank (tailOf s) = true
        · by_cases h5 : 0 < countN (tailOf (tailOf s))
          · refine (read_add s w hs' ht hh hl h1 h2 b3 h4 h5).mono fun e w' ⟨he, hb⟩ => ⟨?_, hb⟩
            have : readC s = some ⟨.closed, headOf (tailOf s), countN (tailOf (tailOf s))⟩ := by simp [readC, h1, h2, h3, h4, h5]
            rw [this]; simp [he, h3]
          · refine (read_add0 s w hs' ht hh hl h1 h2 b3 h4 (by omega)).mono fun e w' ⟨he, hb⟩ => ⟨?_, hb⟩
            have : readC s = none := by simp [readC, h1, h2, h3, h4, h5]
            rw [this]; exact he
        · refine (read_add1 s w hs' ht hh hl h1 h2 b3 (by simpa using h4)).mono fun e w' ⟨he, hb⟩ => ⟨?_, hb⟩
          have : readC s = none := by simp [readC, h1, h2, h3, h4]
          rw [this]; exact he
      · have b3 : ((headOf s).toList == [97, 100, 100]) = false := by rw [← lit_add]; exact bs_ne h3
        by_cases h4 : hasBlank (tailOf s) = true
        · refine (read_more s w hs' ht hh h1 h2 b3 h4).mono fun e w' ⟨he, hb⟩ => ⟨?_, hb⟩
          have : readC s = none := by simp [readC, h1, h2, h3, h4]
          rw [this]; exact he
        · have h4' : hasBlank (tailOf s) = false := by simpa using h4
          by_cases k1 : headOf s = (Kd.bs Go.Tcp.listen)
          · refine (read_remove s w hs' ht hh h1 h2 b3 h4' (by rw [← lit_remove]; exact beq_bs k1)).mono fun e w' ⟨he, hb⟩ => ⟨?_, hb⟩
            have : readC s = some ⟨.listen, headOf (tailOf s), 0⟩ := by simp only [readC, h1, h2, h3, h4, k1]; simp [Kd.bs]
            rw [this]; simp [he, k1]
          have c1 : ((headOf s).toList == [114, 101, 109, 111, 118, 101]) = false := by rw [← lit_remove]; exact bs_ne k1
          by_cases k2 : headOf s = (Kd.bs Go.Tcp.established)
          · refine (read_apply s w hs' ht hh h1 h2 b3 h4' c1 (by rw [← lit_apply]; exact beq_bs k2)).mono fun e w' ⟨he, hb⟩ => ⟨?_, hb⟩
            have : readC s = some ⟨.established, headOf (tailOf s), 0⟩ := by simp only [readC, h1, h2, h3, h4, k2]; simp [Kd.bs]
            rw [this]; simp [he, k2]
          have c2 : ((headOf s).toList == [97, 112, 112, 108, 121]) = false := by rw [← lit_apply]; exact bs_ne k2
          by_cases k3 : headOf s = (Kd.bs Go.Tcp.finWait)
          · refine (read_revoke s w hs' ht hh h1 h2 b3 h4' c1 c2 (by rw [← lit_revoke]; exact beq_bs k3)).mono fun e w' ⟨he, hb⟩ => ⟨?_, hb⟩
            have : readC s = some ⟨.finWait, headOf (tailOf s), 0⟩ := by simp only [readC, h1, h2, h3, h4, k3]; simp [Kd.bs]
            rw [this]; simp [he, k3]
          have c3 : ((headOf s).toList == [114, 101, 118, 111, 107, 101]) = false := by rw [← lit_revoke]; exact bs_ne k3
          by_cases k4 : headOf s = (Kd.bs Go.Tcp.closeWait)
          · refine (read_note s w hs' ht hh h1 h2 b3 h4' c1 c2 c3 (by rw [← lit_note]; exact beq_bs k4)).mono fun e w' ⟨he, hb⟩ => ⟨?_, hb⟩
            have : readC s = some ⟨.closeWait, headOf (tailOf s), 0⟩ := by simp only [readC, h1, h2, h3, h4, k4]; simp [Kd.bs]
            rw [this]; simp [he, k4]
          have c4 : ((headOf s).toList == [110, 111, 116, 101]) = false := by rw [← lit_note]; exact bs_ne k4
          refine (read_none s w hs' ht hh h1 h2 b3 h4' c1 c2 c3 c4).mono fun e w' ⟨he, hb⟩ => ⟨?_, hb⟩
          have : readC s = none := by simp [readC, h1, h2, h3, h4, k1, k2, k3, k4]
          rw [this]; exact he
    · refine (read_no2 s w hs' ht hh h1 (by simpa using h2)).mono fun e w' ⟨he, hb⟩ => ⟨?_, hb⟩
      have : readC s = none := by simp [readC, h1, h2]
      rw [this]; exact he
  · refine (read_no1 s w hs' ht hh (by simpa using h1)).mono fun e w' ⟨he, hb⟩ => ⟨?_, hb⟩
    have : readC s = none := by simp [readC, h1]
    rw [this]; exact he

theorem read_some (hs : s.size ≤ maxLen) {c : Cm} (h : readC s = some c) : Calls Tryz.prog 39 #[.string s] w fun e w' =>
    e = .returned (.tuple #[.agg #[.string c.k.bs, .string c.word, .int .i64 (c.count : Int)], .bool true]) ∧ Below w.heap.size w w' :=
  (read_both s w hs).mono fun e w' ⟨he, hb⟩ => ⟨by rw [h] at he; exact he, hb⟩

theorem read_bad (hs : s.size ≤ maxLen) (h : readC s = none) : Calls Tryz.prog 39 #[.string s] w fun e w' =>
    (∃ (x y : ByteArray) (z : Int), e = .returned (.tuple #[.agg #[.string x, .string y, .int .i64 z], .bool false])) ∧ Below w.heap.size w w' :=
  (read_both s w hs).mono fun e w' ⟨he, hb⟩ => ⟨by rw [h] at he; exact he, hb⟩
end

theorem dig_at (d : Nat) (h : d < 10) : (ByteArray.mk #[48, 49, 50, 51, 52, 53, 54, 55, 56, 57]).extract d (d + 1) = ⟨#[UInt8.ofNat (48 + d)]⟩ := by
  have : ∀ d : Fin 10, (ByteArray.mk #[48, 49, 50, 51, 52, 53, 54, 55, 56, 57]).extract d.val (d.val + 1) = ⟨#[UInt8.ofNat (48 + d.val)]⟩ := by decide +kernel
  exact this ⟨d, h⟩

set_option maxHeartbeats 400000 in
theorem decimal_any : ∀ (n : Nat) (w : World), n < 1000000 →
    Calls Tryz.prog 113 #[.int .i64 (n : Int)] w fun e w' => e = .returned (.string (decN n)) ∧ w' = w := by
  intro n
  induction n using Nat.strongRecOn with
  | ind n ih =>
  intro w hn
  by_cases h : n < 10
  · have HD : Hid (decN n = (ByteArray.mk #[48, 49, 50, 51, 52, 53, 54, 55, 56, 57]).extract (n % 10) (n % 10 + 1)) := by
      show _ = _; rw [dig_at _ (Nat.mod_lt _ (by omega)), decN_small h, Nat.mod_eq_of_lt h]
    clear ih
    go_enter Tryz.func113, Tryz.ntmps113
    go_wp2
    go_ret
    exact ⟨by rw [HD.out]; rfl, rfl⟩
  · have HI : Hid (∀ w, Calls Tryz.prog 113 #[.int .i64 ((n : Int) / 10)] w fun e w' => e = .returned (.string (decN (n / 10))) ∧ w' = w) := by
      intro w
      have := ih (n / 10) (by omega) w (by omega)
      rw [Int.natCast_ediv] at this
      exact this
    have HD : Hid (decN n = decN (n / 10) ++ (ByteArray.mk #[48, 49, 50, 51, 52, 53, 54, 55, 56, 57]).extract (n % 10) (n % 10 + 1)) := by
      show _ = _; rw [dig_at _ (Nat.mod_lt _ (by omega)), decN_big h]
    have hsz : (decN (n / 10)).size ≤ 6 := decN_size 5 _ (by omega)
    have hsz1 : ((ByteArray.mk #[48, 49, 50, 51, 52, 53, 54, 55, 56, 57]).extract (n % 10) (n % 10 + 1)).size ≤ 1 := by rw [dig_at _ (Nat.mod_lt _ (by omega))]; exact Nat.le_refl _
    clear ih
    go_enter Tryz.func113, Tryz.ntmps113
    go_wp2_with (go_at_call 113; refine (HI.out _).mono ?_; rintro e w' ⟨rfl, rfl⟩)
    go_ret
    exact ⟨by rw [HD.out]; rfl, rfl⟩
end Go.Proofs.YtckmppkdpnhodaaGreatDoor

namespace Go.Proofs.YtckmppkdpnhodaaGreatDoor
set_option linter.unusedVariables false
set_option linter.unusedSimpArgs false
open Go.RowKit

theorem bcell {W w1 : World} (hb : Below W.heap.size W w1) : (∀ b o, b < W.heap.size → w1.cell? ⟨b, o, none⟩ = W.cell? ⟨b, o, none⟩) ∧ (∀ b o, b < W.heap.size → w1.frozen? ⟨b, o, none⟩ = W.frozen? ⟨b, o, none⟩) :=
  ⟨fun b o h => hb.cell (p := ⟨b, o, none⟩) h, fun b o h => hb.frozen (p := ⟨b, o, none⟩) h⟩

set_option maxHeartbeats 4000000 in
theorem stays_any (tv kv : Value) (tr : List Dn) (known : List Nat) (a : Nat) (w : World) (hT : TraceAt w tv tr) (hK : NatsAt w kv known)
    (hk : ∀ y ∈ known, y < tr.length) (ha : a < tr.length) (hl : tr.length ≤ maxLen) (hkl : known.length ≤ maxLen) :
    Calls Tryz.prog 77 #[tv, kv, .int .i64 (a : Int)] w fun e w' => e = .returned (.bool (staysB tr known a)) ∧ Below w.heap.size w w' := by
  have hT0 := hT
  obtain ⟨p, cap, rfl, hc⟩ := hT
  obtain ⟨g, bv, rfl, -, -, -, c3, c4, c5, -, -, -⟩ := hc a tr[a] (List.getElem?_eq_getElem ha)
  have hck : cmAt tr a = tr[a].c := cmAt_of (List.getElem?_eq_getElem ha)
  rw [← hck] at c3 c4 c5
  clear hck
  have hK0 := hK
  obtain ⟨q, capq, rfl, hq⟩ := hK
  have hgl := World.block_lt_of_cell? w _ c3
  unfold maxLen at hl hkl
  go_enter Tryz.func77, Tryz.ntmps77
  go_wp2
  go_loopw [8] (fun i wr => ∃ k : Nat, k ≤ known.length ∧ i = .int .i64 k ∧ Hid (staysB tr (known.take k) a = true) ∧ Below (w.heap.size + 1) (w.alloc (.cells #[.string (cmAt tr a).k.bs, .string (cmAt tr a).word, .int .i64 ((cmAt tr a).count : Int)] 85)) wr) (fun i _ => known.length - (intOf i).toNat)
  case atStart => exact ⟨0, Nat.zero_le _, rfl, by simp [Hid, staysB], Below.refl _ _⟩
  case round =>
    obtain ⟨k, hk', rfl, HS, hbw⟩ := hrel
    obtain ⟨hcw, -⟩ := (show (∀ b o, b < w.heap.size + 1 → wr.cell? ⟨b, o, none⟩ = (w.alloc (.cells #[.string (cmAt tr a).k.bs, .string (cmAt tr a).word, .int .i64 ((cmAt tr a).count : Int)] 85)).cell? ⟨b, o, none⟩) ∧ True from ⟨fun b o h => hbw.cell (p := ⟨b, o, none⟩) h, trivial⟩)
    have x0 : wr.cell? ⟨w.heap.size, 0, none⟩ = some (.string (cmAt tr a).k.bs) := by rw [hcw _ _ (by omega)]; simp
    have x1 : wr.cell? ⟨w.heap.size, 1, none⟩ = some (.string (cmAt tr a).word) := by rw [hcw _ _ (by omega)]; simp
    have hsz : w.heap.size + 1 ≤ wr.heap.size := by have := hbw.size; simpa using this
    have hbl : Below w.heap.size w wr := ((Below.refl _ w).alloc (Nat.le_refl _) _).trans (hbw.mono (by omega))
    have hTr := hT0.below hbl
    have hKr := hK0.below hbl
    by_cases hlt : k < known.length
    · obtain ⟨gq, rfl, -⟩ := hq k known[k] (List.getElem?_eq_getElem hlt)
      have hyl : known[k] < tr.length := hk _ (List.getElem_mem hlt)
      have hmem : known[k] ∈ known := List.getElem_mem hlt
      have HSN : Hid (staysB tr (known.take (k + 1)) a = (staysB tr (known.take k) a && !hits tr a known[k])) := by
        rw [take_snoc' known k hlt]; exact staysB_snoc tr _ a _
      have HH : Hid (hits tr a known[k] = (undo (cmAt tr a) (cmAt tr known[k]) && inB (befAt tr known[k]) a)) := rfl
      have HA : Hid (∀ W, Below wr.heap.size wr W → Calls Tryz.prog 116 #[.slice (some ⟨g, 0, none⟩) tr.length cap, .int .i64 (a : Int), .int .i64 (known[k] : Int)] W fun e w' => e = .returned (.bool (inB (befAt tr known[k]) a)) ∧ w' = W) :=
        fun W hW => ahead_any _ tr a known[k] W (hTr.below hW) hyl hl
      obtain ⟨p', cap', hp', hc'⟩ := hTr
      obtain ⟨g', bv', hg', -, -, -, d3, d4, d5, -, -, -⟩ := hc' known[k] tr[known[k]] (List.getElem?_eq_getElem hyl)
      obtain ⟨q', capq', hq', hcq'⟩ := hKr
      obtain ⟨gq', hgq', ck⟩ := hcq' k known[k] (List.getElem?_eq_getElem hlt)
      obtain ⟨rfl, -, rfl⟩ : some ⟨g, 0, none⟩ = p' ∧ True ∧ cap = cap' := by simpa using hp'
      obtain ⟨rfl, -, rfl⟩ : some ⟨gq, 0, none⟩ = q' ∧ True ∧ capq = capq' := by simpa using hq'
      obtain rfl : g = g' := by simpa using hg'
      obtain rfl : gq = gq' := by simpa using hgq'
      clear hg' hgq' hc' hcq' hp' hq' hq hc hcw hT0 hK0
      have hcy : cmAt tr known[k] = tr[known[k]].c := cmAt_of (List.getElem?_eq_getElem hyl)
      rw [← hcy] at d3 d4 d5
      clear hcy
      clear c3 c4 c5
      generalize hX : cmAt tr a = X at *
      generalize hY : cmAt tr known[k] = Y at *
      clear hX hY
      have hgl' := World.block_lt_of_cell? wr _ d3
      have hsz' : w.heap.size < wr.heap.size := by omega
      have hgq' := World.block_lt_of_cell? wr _ ck
      generalize hIN : inB (befAt tr known[k]) a = ib at *
      clear hIN
      generalize hy0 : known[k] = y at *
      clear hy0
      obtain ⟨ka, wa, ca⟩ := X
      obtain ⟨ky, wy, cy⟩ := Y
      cases ka
      case listen =>
        simp only [Kd.bs] at x0
        have HNU : Hid (undo ⟨.listen, wa, ca⟩ ⟨ky, wy, cy⟩ = false) := by simp [Hid, undo]
        generalize ky.bs = yv at *
        go_wp2_with (go_at_call 116; refine (HA.out _ (by first | exact Below.refl _ _ | exact (Below.refl _ _).alloc (Nat.le_refl _) _)).mono ?_; rintro e w' ⟨rfl, rfl⟩)
        all_goals first
          | (go_ret; exact ⟨ret_bool (staysB_false hmem (by rw [HH.out, HNU.out]; rfl)).symm, hbl.alloc (by omega) _⟩)
          | (go_roundw; (case rel => exact ⟨k + 1, by omega, by go_num, by show _ = true; rw [HSN.out, HH.out, HS.out, HNU.out]; rfl, hbw.alloc hsz _⟩); (case measure => simp [intOf]; omega))
      case finWait =>
        simp only [Kd.bs] at x0
        have HNU : Hid (undo ⟨.finWait, wa, ca⟩ ⟨ky, wy, cy⟩ = false) := by simp [Hid, undo]
        generalize ky.bs = yv at *
        go_wp2_with (go_at_call 116; refine (HA.out _ (by first | exact Below.refl _ _ | exact (Below.refl _ _).alloc (Nat.le_refl _) _)).mono ?_; rintro e w' ⟨rfl, rfl⟩)
        all_goals first
          | (go_ret; exact ⟨ret_bool (staysB_false hmem (by rw [HH.out, HNU.out]; rfl)).symm, hbl.alloc (by omega) _⟩)
          | (go_roundw; (case rel => exact ⟨k + 1, by omega, by go_num, by show _ = true; rw [HSN.out, HH.out, HS.out, HNU.out]; rfl, hbw.alloc hsz _⟩); (case measure => simp [intOf]; omega))
      case closeWait =>
        simp only [Kd.bs] at x0
        by_cases hky : ky = .closeWait
        · subst hky
          have HNU : Hid (undo ⟨.closeWait, wa, ca⟩ ⟨.closeWait, wy, cy⟩ = true) := by simp [Hid, undo]
          simp only [Kd.bs] at d3
          cases ib
          all_goals
            go_wp2_with (go_at_call 116; refine (HA.out _ (by first | exact Below.refl _ _ | exact (Below.refl _ _).alloc (Nat.le_refl _) _)).mono ?_; rintro e w' ⟨rfl, rfl⟩)
            all_goals first
              | (go_ret; exact ⟨ret_bool (staysB_false hmem (by rw [HH.out, HNU.out]; rfl)).symm, hbl.alloc (by omega) _⟩)
              | (go_roundw; (case rel => exact ⟨k + 1, by omega, by go_num, by show _ = true; rw [HSN.out, HH.out, HS.out, HNU.out]; rfl, hbw.alloc hsz _⟩); (case measure => simp [intOf]; omega))
        · have HNU : Hid (undo ⟨.closeWait, wa, ca⟩ ⟨ky, wy, cy⟩ = false) := by simp [Hid, undo, hky]
          have hne : (ky.bs.toList == [110, 111, 116, 101]) = false := ne_note hky
          clear hky
          generalize ky.bs = yv at *
          go_wp2_with (go_at_call 116; refine (HA.out _ (by first | exact Below.refl _ _ | exact (Below.refl _ _).alloc (Nat.le_refl _) _)).mono ?_; rintro e w' ⟨rfl, rfl⟩)
          all_goals first
            | (go_ret; exact ⟨ret_bool (staysB_false hmem (by rw [HH.out, HNU.out]; rfl)).symm, hbl.alloc (by omega) _⟩)
            | (go_roundw; (case rel => exact ⟨k + 1, by omega, by go_num, by show _ = true; rw [HSN.out, HH.out, HS.out, HNU.out]; rfl, hbw.alloc hsz _⟩); (case measure => simp [intOf]; omega))
      case closed =>
        simp only [Kd.bs] at x0
        by_cases hw : wa = wy
        · subst hw
          by_cases hky : ky = .listen
          · subst hky
            have HNU : Hid (undo ⟨.closed, wa, ca⟩ ⟨.listen, wa, cy⟩ = true) := by simp [Hid, undo]
            simp only [Kd.bs] at d3
            cases ib
            all_goals
              go_wp2_with (go_at_call 116; refine (HA.out _ (by first | exact Below.refl _ _ | exact (Below.refl _ _).alloc (Nat.le_refl _) _)).mono ?_; rintro e w' ⟨rfl, rfl⟩)
              all_goals first
                | (go_ret; exact ⟨ret_bool (staysB_false hmem (by rw [HH.out, HNU.out]; rfl)).symm, hbl.alloc (by omega) _⟩)
                | (go_roundw; (case rel => exact ⟨k + 1, by omega, by go_num, by show _ = true; rw [HSN.out, HH.out, HS.out, HNU.out]; rfl, hbw.alloc hsz _⟩); (case measure => simp [intOf]; omega))
          · have HNU : Hid (undo ⟨.closed, wa, ca⟩ ⟨ky, wa, cy⟩ = false) := by simp [Hid, undo, hky]
            have hne : (ky.bs.toList == [114, 101, 109, 111, 118, 101]) = false := ne_remove hky
            clear hky
            generalize ky.bs = yv at *
            go_wp2_with (go_at_call 116; refine (HA.out _ (by first | exact Below.refl _ _ | exact (Below.refl _ _).alloc (Nat.le_refl _) _)).mono ?_; rintro e w' ⟨rfl, rfl⟩)
            all_goals first
              | (go_ret; exact ⟨ret_bool (staysB_false hmem (by rw [HH.out, HNU.out]; rfl)).symm, hbl.alloc (by omega) _⟩)
              | (go_roundw; (case rel => exact ⟨k + 1, by omega, by go_num, by show _ = true; rw [HSN.out, HH.out, HS.out, HNU.out]; rfl, hbw.alloc hsz _⟩); (case measure => simp [intOf]; omega))
        · have HNU : Hid (undo ⟨.closed, wa, ca⟩ ⟨ky, wy, cy⟩ = false) := by simp [Hid, undo, hw]
          have hw' : (wa.toList == wy.toList) = false := bs_ne hw
          clear hw
          generalize ky.bs = yv at *
          go_wp2_with (go_at_call 116; refine (HA.out _ (by first | exact Below.refl _ _ | exact (Below.refl _ _).alloc (Nat.le_refl _) _)).mono ?_; rintro e w' ⟨rfl, rfl⟩)
          all_goals first
            | (go_ret; exact ⟨ret_bool (staysB_false hmem (by rw [HH.out, HNU.out]; rfl)).symm, hbl.alloc (by omega) _⟩)
            | (go_roundw; (case rel => exact ⟨k + 1, by omega, by go_num, by show _ = true; rw [HSN.out, HH.out, HS.out, HNU.out]; rfl, hbw.alloc hsz _⟩); (case measure => simp [intOf]; omega))
      case established =>
        simp only [Kd.bs] at x0
        by_cases hw : wa = wy
        · subst hw
          by_cases hky : ky = .finWait
          · subst hky
            have HNU : Hid (undo ⟨.established, wa, ca⟩ ⟨.finWait, wa, cy⟩ = true) := by simp [Hid, undo]
            simp only [Kd.bs] at d3
            cases ib
            all_goals
              go_wp2_with (go_at_call 116; refine (HA.out _ (by first | exact Below.refl _ _ | exact (Below.refl _ _).alloc (Nat.le_refl _) _)).mono ?_; rintro e w' ⟨rfl, rfl⟩)
              all_goals first
                | (go_ret; exact ⟨ret_bool (staysB_false hmem (by rw [HH.out, HNU.out]; rfl)).symm, hbl.alloc (by omega) _⟩)
                | (go_roundw; (case rel => exact ⟨k + 1, by omega, by go_num, by show _ = true; rw [HSN.out, HH.out, HS.out, HNU.out]; rfl, hbw.alloc hsz _⟩); (case measure => simp [intOf]; omega))
          · have HNU : Hid (undo ⟨.established, wa, ca⟩ ⟨ky, wa, cy⟩ = false) := by simp [Hid, undo, hky]
            have hne : (ky.bs.toList == [114, 101, 118, 111, 107, 101]) = false := ne_revoke hky
            clear hky
            generalize ky.bs = yv at *
            go_wp2_with (go_at_call 116; refine (HA.out _ (by first | exact Below.refl _ _ | exact (Below.refl _ _).alloc (Nat.le_refl _) _)).mono ?_; rintro e w' ⟨rfl, rfl⟩)
            all_goals first
              | (go_ret; exact ⟨ret_bool (staysB_false hmem (by rw [HH.out, HNU.out]; rfl)).symm, hbl.alloc (by omega) _⟩)
              | (go_roundw; (case rel => exact ⟨k + 1, by omega, by go_num, by show _ = true; rw [HSN.out, HH.out, HS.out, HNU.out]; rfl, hbw.alloc hsz _⟩); (case measure => simp [intOf]; omega))
        · have HNU : Hid (undo ⟨.established, wa, ca⟩ ⟨ky, wy, cy⟩ = false) := by simp [Hid, undo, hw]
          have hw' : (wa.toList == wy.toList) = false := bs_ne hw
          clear hw
          generalize ky.bs = yv at *
          go_wp2_with (go_at_call 116; refine (HA.out _ (by first | exact Below.refl _ _ | exact (Below.refl _ _).alloc (Nat.le_refl _) _)).mono ?_; rintro e w' ⟨rfl, rfl⟩)
          all_goals first
            | (go_ret; exact ⟨ret_bool (staysB_false hmem (by rw [HH.out, HNU.out]; rfl)).symm, hbl.alloc (by omega) _⟩)
            | (go_roundw; (case rel => exact ⟨k + 1, by omega, by go_num, by show _ = true; rw [HSN.out, HH.out, HS.out, HNU.out]; rfl, hbw.alloc hsz _⟩); (case measure => simp [intOf]; omega))
    · go_wp2
      go_ret
      exact ⟨ret_bool (by rw [← HS.out, List.take_of_length_le (by omega)]), hbl⟩
end Go.Proofs.YtckmppkdpnhodaaGreatDoor
