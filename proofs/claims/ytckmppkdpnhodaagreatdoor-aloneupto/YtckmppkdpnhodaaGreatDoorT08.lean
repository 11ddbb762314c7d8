/-
  (*World).asks over the whole world in memory: its contract. Contracts of cartelref.letters, count, split.
-/
import Derived.Test.YtckmppkdpnhodaaGreatDoorT06
import Derived.Test.YtckmppkdpnhodaaGreatDoorT07
import Derived.Test.YtckmppkdpnhodaaGreatDoorT01
namespace Go.Proofs.YtckmppkdpnhodaaGreatDoor
set_option linter.unusedVariables false
set_option linter.unusedSimpArgs false
open Go.RowKit

variable {R : World → Nat → Nat → Nat → List Cm → (Nat → Prop) → Prop}

theorem asks_mem (hR : Local R) {w : World} {c : Nat → Nat} {L : Lay} {st : St} (h : Mem R w c L st) {k : Nat} (hk : k < st.n) (ids : List Nat) (told : Told st.tr ids)
    (hx : ∃ m, m ≤ ids.length ∧ st.xss[k]'(by rw [h.xlen]; exact hk) = ids.take m ∧ (st.fresh[k]'(by rw [h.flen]; exact hk) = true ∨ m = ids.length))
    (hTl : st.tr.length ≤ 1000000000000) (hil : ids.length ≤ 10000000000) (hN : st.bk.length ≤ 100000000000)
    (hKn : Calls Tryz.prog 28 #[.pointer (some ⟨st.rbs[k]'(by rw [h.llen]; exact hk), 0, none⟩)] w fun e w' => ∃ p cap, e = .returned (.slice p ids.length cap) ∧ w'.ownsRow w.heap.size 68 3 (.slice p ids.length cap) ids.length (opCells st.tr ids) ∧ Below w.heap.size w w') :
    Calls Tryz.prog 35 #[.pointer (some ⟨L.wb, 0, none⟩), .int .i64 (k : Int)] w fun e w' => e = .returned (.bool true) ∧ ∃ c' L', L'.wb = L.wb ∧ Mem R w' c' L' (st.asked k ids) ∧ Stp w c w' c' := by
  obtain ⟨m, hm, hxm, hf⟩ := hx
  have hkx : k < st.xss.length := by rw [h.xlen]; exact hk
  have hkf : k < st.fresh.length := by rw [h.flen]; exact hk
  have hkr : k < st.rbs.length := by rw [h.llen]; exact hk
  obtain ⟨u, hu, hrow, huc⟩ := h.xrow k hkx
  have hlm : (ids.take m).length = m := by simp; omega
  rw [hxm, hlm] at hrow
  obtain ⟨n1, n2⟩ := h.npos
  have ne : ∀ {a b : Nat} {x y : Nat}, c a = x → c b = y → x ≠ y → a ≠ b := fun ha hb hxy e => hxy (by rw [← ha, ← hb, e])
  have nv : ∀ {v : Value} {b x y : Nat}, (∀ a, v.ownBlock = some a → c a = x) → c b = y → x ≠ y → v.ownBlock ≠ some b := fun hv hb hxy e => hxy (by rw [← hv _ e, ← hb])
  have nn : ∀ {v v' : Value} {x y : Nat}, (∀ a, v.ownBlock = some a → c a = x) → (∀ a, v'.ownBlock = some a → c a = y) → x ≠ y → ∀ b, v.ownBlock = some b → v'.ownBlock ≠ some b := fun hv hv' hxy b e e' => hxy (by rw [← hv _ e, ← hv' _ e'])
  have hP : ∀ b, (c b = 3 ∨ c b = 9) → b ≠ L.wb ∧ b ≠ L.kb ∧ b ≠ L.fb ∧ u.ownBlock ≠ some b := fun b hb => by
    refine ⟨?_, ?_, ?_, ?_⟩
    · intro e; subst e; have := h.wbc; omega
    · intro e; subst e; have := h.kbc; omega
    · intro e; subst e; have := h.fbc; omega
    · intro e; have := huc b e; omega
  cases hfv : st.fresh[k]
  · have hmi : m = ids.length := by
      rcases hf with hf | hf
      · rw [hfv] at hf; cases hf
      · exact hf
    have hFB : L.FB[k]? = some (.bool false) := by rw [h.fcell k hkf, hfv]
    refine (asks_false L.wb st.rbs[k] L.lb L.kb L.fb k (L.C st.n) L.KB L.FB _ _ _ L.tv L.osv L.kov u st.n L.capl st.n L.capk st.n L.capf st.bk.length m L.us (st.bk.map fun e => .int .i64 e.2) st.tr ids (fun b => c b = 3 ∨ c b = 9) w
      h.wbk (by simp [Lay.C]) (by simp [Lay.C]) (by simp [Lay.C]) (by simp [Lay.C]) (by simp [Lay.C]) (by simp [Lay.C]) (by simp [Lay.C]) hk hk hk (h.lcell k hkr) h.kbk hu hrow h.fbk hFB h.trace hTl hil h.orow h.krow hN told hmi
      (ne h.wbc h.kbc (by omega)) (ne h.wbc h.fbc (by omega)) (ne h.kbc h.fbc (by omega)) (nv huc h.wbc (by omega)) (nv huc h.kbc (by omega)) (nv huc h.fbc (by omega))
      (nv h.ovc h.wbc (by omega)) (nv h.ovc h.kbc (by omega)) (nv h.ovc h.fbc (by omega)) (nn h.ovc huc (by omega)) (nv h.kvc h.wbc (by omega)) (nv h.kvc h.kbc (by omega)) (nv h.kvc h.fbc (by omega)) (nn h.kvc huc (by omega)) (nn h.ovc h.kvc (by omega)) hP hKn).mono fun e w' ⟨he, hp⟩ => ⟨he, h.asked hR hk hu huc hp⟩
  · have hFB : L.FB[k]? = some (.bool true) := by rw [h.fcell k hkf, hfv]
    refine (asks_true L.wb st.rbs[k] L.lb L.kb L.fb k (L.C st.n) L.KB L.FB _ _ _ L.tv L.osv L.kov u st.n L.capl st.n L.capk st.n L.capf st.bk.length m L.us (st.bk.map fun e => .int .i64 e.2) st.tr ids (fun b => c b = 3 ∨ c b = 9) w
      h.wbk (by simp [Lay.C]) (by simp [Lay.C]) (by simp [Lay.C]) (by simp [Lay.C]) (by simp [Lay.C]) (by simp [Lay.C]) (by simp [Lay.C]) hk hk hk (h.lcell k hkr) h.kbk hu hrow h.fbk hFB h.trace hTl hil h.orow h.krow hN told hm
      (ne h.wbc h.kbc (by omega)) (ne h.wbc h.fbc (by omega)) (ne h.kbc h.fbc (by omega)) (nv huc h.wbc (by omega)) (nv huc h.kbc (by omega)) (nv huc h.fbc (by omega))
      (nv h.ovc h.wbc (by omega)) (nv h.ovc h.kbc (by omega)) (nv h.ovc h.fbc (by omega)) (nn h.ovc huc (by omega)) (nv h.kvc h.wbc (by omega)) (nv h.kvc h.kbc (by omega)) (nv h.kvc h.fbc (by omega)) (nn h.kvc huc (by omega)) (nn h.ovc h.kvc (by omega)) hP hKn).mono fun e w' ⟨he, hp⟩ => ⟨he, h.asked hR hk hu huc hp⟩

end Go.Proofs.YtckmppkdpnhodaaGreatDoor

namespace Go.Proofs.YtckmppkdpnhodaaGreatDoor
set_option linter.unusedVariables false
set_option linter.unusedSimpArgs false
open Go.RowKit

def isLow (c : UInt8) : Bool := decide (97 ≤ c.toNat) && decide (c.toNat ≤ 122)
def wordB (s : ByteArray) : Bool := decide (1 ≤ s.size) && decide (s.size ≤ 8) && s.data.toList.all isLow

theorem take_byte (s : ByteArray) (k : Nat) (h : k < s.size) : s.data.toList.take (k + 1) = s.data.toList.take k ++ [s[k]] := by
  rw [List.take_succ_eq_append_getElem (by simpa using h)]; rfl

theorem mem_byte (s : ByteArray) (k : Nat) (h : k < s.size) : s[k] ∈ s.data.toList := by
  have : s.data.toList[k]'(by simpa using h) ∈ s.data.toList := List.getElem_mem _
  exact this

set_option maxHeartbeats 400000 in
theorem letters_any (s : ByteArray) (w : World) (hs : s.size ≤ maxLen) :
    Calls Tryz.prog 75 #[.string s] w fun e w' => e = .returned (.bool (wordB s)) ∧ w' = w := by
  unfold maxLen at hs
  by_cases h1 : s.size < 1
  · have HW : Hid (wordB s = false) := by simp [Hid, wordB]; omega
    go_enter Tryz.func75, Tryz.ntmps75
    go_wp2
    go_ret
    exact ⟨ret_bool HW.out.symm, rfl⟩
  by_cases h8 : 8 < s.size
  · have HW : Hid (wordB s = false) := by simp [Hid, wordB]; omega
    go_enter Tryz.func75, Tryz.ntmps75
    go_wp2
    go_ret
    exact ⟨ret_bool HW.out.symm, rfl⟩
  have HW : Hid (wordB s = s.data.toList.all isLow) := by
    have a : 1 ≤ s.size := by omega
    have b : s.size ≤ 8 := by omega
    simp [Hid, wordB, a, b]
  go_enter Tryz.func75, Tryz.ntmps75
  go_wp2
  go_loop [3] (fun i => ∃ k : Nat, k ≤ s.size ∧ i = .int .i64 k ∧ Hid ((s.data.toList.take k).all isLow = true)) (fun i => s.size - (intOf i).toNat)
  case atStart => exact ⟨0, Nat.zero_le _, rfl, by simp [Hid]⟩
  case round =>
    obtain ⟨k, hk, rfl, HA⟩ := hrel
    by_cases hlt : k < s.size
    · have HSN : Hid ((s.data.toList.take (k + 1)).all isLow = ((s.data.toList.take k).all isLow && isLow s[k])) := by
        show _ = _
        rw [take_byte s k hlt, List.all_append]; simp
      have hm := mem_byte s k hlt
      by_cases ha : s[k].toNat < 97
      · go_wp2
        go_ret
        exact ⟨ret_bool (by rw [HW.out, eq_comm, List.all_eq_false]; exact ⟨s[k], hm, by simp [isLow]; omega⟩), rfl⟩
      · by_cases hb : 122 < s[k].toNat
        · go_wp2
          go_ret
          exact ⟨ret_bool (by rw [HW.out, eq_comm, List.all_eq_false]; exact ⟨s[k], hm, by simp [isLow]; omega⟩), rfl⟩
        · go_wp2
          go_round
          case rel => exact ⟨k + 1, by omega, by go_num, by show _ = true; rw [HSN.out, HA.out]; simp [isLow]; omega⟩
          case measure => simp [intOf]; omega
    · go_wp2
      go_ret
      exact ⟨ret_bool (by rw [HW.out, ← HA.out, List.take_of_length_le (by simp; omega)]), rfl⟩

/-- The first blank's place; the length where there is none. -/
def blank (s : ByteArray) : Nat := s.data.toList.findIdx (· == 32)

theorem blank_le (s : ByteArray) : blank s ≤ s.size := by
  have := List.findIdx_le_length (p := (· == 32)) (xs := s.data.toList)
  simpa [blank] using this

theorem blank_step {s : ByteArray} {k : Nat} (hlt : k < s.size) (h : k ≤ blank s) (hne : ¬ s[k].toNat = 32) : k + 1 ≤ blank s := by
  rcases Nat.lt_or_ge k (blank s) with h1 | h1
  · exact h1
  · exfalso
    have e : blank s = k := by omega
    have hk : s.data.toList.findIdx (· == 32) < s.data.toList.length := by rw [← blank, e]; simpa using hlt
    have := List.findIdx_getElem (p := (· == 32)) (xs := s.data.toList) (w := hk)
    have e2 : s.data.toList.findIdx (· == 32) = k := e
    simp only [e2] at this
    apply hne
    have h3 : s.data[k]'(by simpa using hlt) = 32 := by simpa using this
    have h4 : s[k] = 32 := h3
    rw [h4]; rfl

theorem blank_at {s : ByteArray} {k : Nat} (hlt : k < s.size) (h : k ≤ blank s) (he : s[k].toNat = 32) : blank s = k := by
  rcases Nat.lt_or_ge k (blank s) with h1 | h1
  · exfalso
    have := List.not_of_lt_findIdx (p := (· == 32)) (xs := s.data.toList) h1
    have h3 : s[k] = 32 := UInt8.toNat_inj.1 (by rw [he]; rfl)
    have h5 : s.data.toList[k]'(by simpa using hlt) = 32 := h3
    rw [h5] at this
    simp at this
  · omega

set_option maxHeartbeats 400000 in
theorem split_both (s : ByteArray) (w : World) (hs : s.size ≤ maxLen) :
    Calls Tryz.prog 74 #[.string s] w fun e w' => (blank s < s.size ∧ e = .returned (.tuple #[.string (s.extract 0 (blank s)), .string (s.extract (blank s + 1) s.size), .bool true]) ∧ w' = w.drew) ∨
      (blank s = s.size ∧ e = .returned (.tuple #[.string s, .string ByteArray.empty, .bool false]) ∧ w' = w) := by
  unfold maxLen at hs
  go_enter Tryz.func74, Tryz.ntmps74
  go_wp2
  go_loop [5] (fun i => ∃ k : Nat, k ≤ s.size ∧ i = .int .i64 k ∧ Hid (k ≤ blank s)) (fun i => s.size - (intOf i).toNat)
  case atStart => exact ⟨0, Nat.zero_le _, rfl, by simp [Hid]⟩
  case round =>
    obtain ⟨k, hk, rfl, HA⟩ := hrel
    by_cases hlt : k < s.size
    · by_cases he : s[k].toNat = 32
      · have HB : Hid (blank s = k) := blank_at hlt HA.out he
        have i0 : (0 : Int) ≤ (k : Int) := by omega
        have i1 : (k : Int) ≤ (s.size : Int) := by omega
        have i2 : (k : Int) + 1 ≤ (s.size : Int) := by omega
        have i3 : (0 : Int) ≤ (k : Int) + 1 := by omega
        go_wp2
        go_region
        all_goals go_wp2
        all_goals go_ret3
        all_goals exact .inl ⟨by rw [HB.out]; exact hlt, by rw [HB.out]; rfl, rfl⟩
      · go_wp2
        go_round
        case rel => exact ⟨k + 1, by omega, by go_num, blank_step hlt HA.out he⟩
        case measure => simp [intOf]; omega
    · go_wp2
      go_ret3
      have := blank_le s
      exact .inr ⟨by have := HA.out; omega, rfl, rfl⟩

/-- What a text of digits is worth: 0 where it is no count. -/
def countGo : List UInt8 → Nat → Nat
  | [], n => n
  | c :: r, n => if c.toNat < 48 ∨ 57 < c.toNat then 0 else if 10 * n + (c.toNat - 48) = 0 ∨ 99 < 10 * n + (c.toNat - 48) then 0 else countGo r (10 * n + (c.toNat - 48))

def countN (s : ByteArray) : Nat := countGo s.data.toList 0

theorem drop_byte (s : ByteArray) (k : Nat) (h : k < s.size) : s.data.toList.drop k = s[k] :: s.data.toList.drop (k + 1) := by
  rw [List.drop_eq_getElem_cons (by simpa using h)]; rfl

theorem countGo_le : ∀ (l : List UInt8) (n : Nat), n ≤ 99 → countGo l n ≤ 99
  | [], n, h => h
  | c :: r, n, h => by
    unfold countGo
    split
    · omega
    · split
      · omega
      · exact countGo_le r _ (by omega)

set_option maxHeartbeats 400000 in
theorem count_any (s : ByteArray) (w : World) (hs : s.size ≤ maxLen) :
    Calls Tryz.prog 76 #[.string s] w fun e w' => e = .returned (.int .i64 (countN s : Int)) ∧ w' = w := by
  unfold maxLen at hs
  go_enter Tryz.func76, Tryz.ntmps76
  go_wp2
  go_loop [3, 4] (fun n i => ∃ k m : Nat, k ≤ s.size ∧ m ≤ 99 ∧ i = .int .i64 k ∧ n = .int .i64 m ∧ Hid (countN s = countGo (s.data.toList.drop k) m)) (fun _ i => s.size - (intOf i).toNat)
  case atStart => exact ⟨0, 0, Nat.zero_le _, by omega, rfl, rfl, by simp [Hid, countN]⟩
  case round =>
    obtain ⟨k, m, hk, hm, rfl, rfl, HA⟩ := hrel
    by_cases hlt : k < s.size
    · have HD : Hid (countN s = if s[k].toNat < 48 ∨ 57 < s[k].toNat then 0 else if 10 * m + (s[k].toNat - 48) = 0 ∨ 99 < 10 * m + (s[k].toNat - 48) then 0 else countGo (s.data.toList.drop (k + 1)) (10 * m + (s[k].toNat - 48))) := by
        show _ = _
        rw [HA.out, drop_byte s k hlt, countGo]
      clear HA
      by_cases ha : s[k].toNat < 48
      · go_wp2
        go_ret
        exact ⟨ret_int (by rw [HD.out, if_pos (.inl ha)]; rfl), rfl⟩
      · by_cases hb : 57 < s[k].toNat
        · go_wp2
          go_ret
          exact ⟨ret_int (by rw [HD.out, if_pos (.inr hb)]; rfl), rfl⟩
        · have hb' : s[k].toNat ≤ 57 := by omega
          have hb1 : 48 ≤ s[k].toNat := by omega
          by_cases hz : 10 * m + (s[k].toNat - 48) = 0 ∨ 99 < 10 * m + (s[k].toNat - 48)
          · have HZ : Hid (countN s = 0) := by show _ = _; rw [HD.out, if_neg (by omega), if_pos hz]
            rcases hz with hz | hz
            · have hm0 : m = 0 := by omega
              have hc0 : s[k].toNat = 48 := by omega
              go_wp2
              go_ret
              exact ⟨ret_int (by rw [HZ.out]; rfl), rfl⟩
            · go_wp2
              all_goals go_ret
              all_goals exact ⟨ret_int (by rw [HZ.out]; rfl), rfl⟩
          · have HZ : Hid (countN s = countGo (s.data.toList.drop (k + 1)) (10 * m + (s[k].toNat - 48))) := by show _ = _; rw [HD.out, if_neg (by omega), if_neg hz]
            have hz1 : (0 : Int) < 10 * (m : Int) + ((s[k].toNat : Int) - 48) := by omega
            have hz2 : 10 * (m : Int) + ((s[k].toNat : Int) - 48) ≤ 99 := by omega
            have hzb : (10 * (m : Int) + ((s[k].toNat : Int) - 48) == 0) = false := by rw [beq_eq_false_iff_ne]; omega
            clear hz
            go_wp2
            go_round
            case rel => exact ⟨k + 1, 10 * m + (s[k].toNat - 48), by omega, by omega, by go_num, by go_num, HZ.out⟩
            case measure => simp [intOf]; omega
    · go_wp2
      go_ret
      exact ⟨ret_int (by rw [HA.out, List.drop_of_length_le (by simp; omega)]; rfl), rfl⟩
end Go.Proofs.YtckmppkdpnhodaaGreatDoor
