/-
  Contracts of cartellaw.pick, number, place, unknown. Contract of (*book).kept where only lists of commands came out.
-/
import Derived.Test.YtckmppkdpnhodaaGreatDoorT01
import Derived.Deep.QuietTactic
import Derived.BigQuiet
import Derived.Deep.RegionHeld3
import Derived.Deep.DrawnRows
namespace Go.Proofs.YtckmppkdpnhodaaGreatDoor
set_option linter.unusedVariables false
set_option linter.unusedSimpArgs false
open Go.RowKit

def pickN (c : Int) (n : Int) : Nat := ((if c < 0 then -(c + 1) else c) % n).toNat

theorem pickN_lt {c n : Int} (hn : 0 < n) : (pickN c n : Int) < n := by
  unfold pickN
  generalize (if c < 0 then -(c + 1) else c) = x
  have h1 := Int.emod_nonneg x (show n ≠ 0 by omega)
  have h2 := Int.emod_lt_of_pos x hn
  omega

theorem pickN_int {c n : Int} (hn : 0 < n) : (pickN c n : Int) = (if c < 0 then -(c + 1) else c) % n := by
  unfold pickN
  have h1 := Int.emod_nonneg (if c < 0 then -(c + 1) else c) (show n ≠ 0 by omega)
  omega

set_option maxHeartbeats 400000 in
theorem pick_any (c n : Int) (w : World) (hc : -9223372036854775808 ≤ c ∧ c ≤ 9223372036854775807) (hn : 0 < n ∧ n ≤ 100) :
    Calls Tryz.prog 32 #[.int .i64 c, .int .i64 n] w fun e w' => e = .returned (.int .i64 (pickN c n : Int)) ∧ w' = w := by
  obtain ⟨hc1, hc2⟩ := hc
  obtain ⟨hn1, hn2⟩ := hn
  have HP : Hid ((pickN c n : Int) = (if c < 0 then -(c + 1) else c) % n) := pickN_int hn1
  by_cases h : c < 0
  · have hp : 0 ≤ -(c + 1) := by omega
    go_enter Tryz.func32, Tryz.ntmps32
    go_wp2
    go_ret
    refine ⟨ret_int ?_, rfl⟩
    rw [HP.out, if_pos h, ← Int.neg_tmod, Int.tmod_eq_emod_of_nonneg hp]
  · go_enter Tryz.func32, Tryz.ntmps32
    go_wp2
    go_ret
    exact ⟨ret_int (by rw [HP.out, if_neg (by omega)]), rfl⟩

set_option maxHeartbeats 400000 in
theorem number_of (n : Int) (w : World) (hc : -9223372036854775808 ≤ n ∧ n ≤ 9223372036854775807) :
    Calls Tryz.prog 14 #[.int .i64 n] w fun e w' => e = .returned (.int .i64 ((2 + pickN n 4 : Nat) : Int)) ∧ w' = w := by
  have hl : (pickN n 4 : Int) < 4 := pickN_lt (by omega)
  have HC : Hid (-9223372036854775808 ≤ n ∧ n ≤ 9223372036854775807) := hc
  clear hc
  go_enter Tryz.func14, Tryz.ntmps14
  go_wp2_with (go_at_call 32; refine (pick_any n 4 _ HC.out (by omega)).mono ?_; rintro e w' ⟨rfl, rfl⟩)
  go_ret
  exact ⟨ret_int (by go_num), rfl⟩

set_option maxHeartbeats 800000 in
theorem place_at (wb : Nat) (tv : Value) (tr : List Dn) (p : Nat) (w : World) (h2 : w.cell? ⟨wb, 2, none⟩ = some tv) (hT : TraceAt w tv tr) (hl : tr.length ≤ maxLen) (hp : p < tr.length)
    (hno : ∀ j (h : j < tr.length), j < p → ¬ (tr[j].org = tr[p].org ∧ tr[j].seq = tr[p].seq)) :
    Calls Tryz.prog 65 #[.pointer (some ⟨wb, 0, none⟩), .agg #[.int .i64 (tr[p].org : Int), .int .i64 (tr[p].seq : Int), .string tr[p].text]] w fun e w' => e = .returned (.int .i64 (p : Int)) ∧ Below w.heap.size w w' := by
  have hb2 := World.block_lt_of_cell? w _ h2
  generalize hO : tr[p].org = O at *
  generalize hS : tr[p].seq = S at *
  generalize hX : tr[p].text = X at *
  obtain ⟨q, cap, rfl, hc⟩ := hT
  unfold maxLen at hl
  have HO : Hid (tr[p].org = O ∧ tr[p].seq = S ∧ tr[p].text = X) := ⟨hO, hS, hX⟩
  have HN : Hid (∀ j (h : j < tr.length), j < p → ¬ (tr[j].org = O ∧ tr[j].seq = S)) := hno
  clear hO hS hX hno
  go_enter Tryz.func65, Tryz.ntmps65
  go_wp2
  go_loopw [5] (fun i wr => ∃ k n : Nat, k ≤ p ∧ i = .int .i64 k ∧ wr = (w.alloc (.cells #[.int .i64 (O : Int), .int .i64 (S : Int), .string X] 68)).drewN n) (fun i _ => p + 1 - (intOf i).toNat)
  case atStart => exact ⟨0, 0, Nat.zero_le _, rfl, rfl⟩
  case round =>
    obtain ⟨k, nd, hk, rfl, rfl⟩ := hrel
    have hlt : k < tr.length := by omega
    obtain ⟨g, bv, rfl, c0, c1, c2, -, -, -, -, -, -⟩ := hc k tr[k] (List.getElem?_eq_getElem hlt)
    have hbg := World.block_lt_of_cell? w _ c0
    have k0 : (0 : Int) ≤ (k : Int) := by omega
    have k1 : (k : Int) < (tr.length : Int) := by omega
    have HK : Hid (k < p → ¬ (tr[k].org = O ∧ tr[k].seq = S)) := HN.out k hlt
    clear hc
    by_cases he : k = p
    · subst he
      rw [HO.out.1] at c0
      rw [HO.out.2.1] at c1
      rw [HO.out.2.2] at c2
      go_wp2
      go_quiet ((fail))
      go_wp2
      go_ret
      exact ⟨rfl, below_drewN (below_drewN ((Below.refl _ _).alloc (Nat.le_refl _) _) _) _⟩
    · have hkp : k < p := by omega
      have HK2 := HK.out hkp
      generalize tr[k].org = O' at *
      generalize tr[k].seq = S' at *
      generalize tr[k].text = X' at *
      by_cases hoo : O' = O
      · have hss : ¬ S' = S := fun e => HK2 ⟨hoo, e⟩
        subst hoo
        have b1 : ((S' : Int) == (S : Int)) = false := by rw [beq_eq_false_iff_ne]; omega
        have b2 : ¬ (S' : Int) = (S : Int) := by omega
        clear hss HK2
        go_wp2
        go_quiet ((fail))
        go_wp2
        go_roundw
        case rel => exact ⟨k + 1, _, by omega, by go_num, rfl⟩
        case measure => simp [intOf]; omega
      · have b1 : ((O' : Int) == (O : Int)) = false := by rw [beq_eq_false_iff_ne]; omega
        have b2 : ¬ (O' : Int) = (O : Int) := by omega
        clear hoo HK2
        go_wp2
        go_quiet ((fail))
        go_wp2
        go_roundw
        case rel => exact ⟨k + 1, _, by omega, by go_num, rfl⟩
        case measure => simp [intOf]; omega

/-- A slice of slices of int that reads as these lists. -/
def ListsAt (w : World) (v : Value) (xss : List (List Nat)) : Prop :=
  ∃ p cap, v = .slice p xss.length cap ∧ ∀ (i : Nat) (xs : List Nat), xss[i]? = some xs → ∃ g u, p = some ⟨g, 0, none⟩ ∧ w.cell? ⟨g, i, none⟩ = some u ∧ NatsAt w u xs

theorem ListsAt.below {w w' : World} {v : Value} {xss : List (List Nat)} (h : ListsAt w v xss) (hb : Below w.heap.size w w') : ListsAt w' v xss := by
  obtain ⟨p, cap, hv, hc⟩ := h
  refine ⟨p, cap, hv, fun i x hx => ?_⟩
  obtain ⟨g, u, hg, hcell, hn⟩ := hc i x hx
  exact ⟨g, u, hg, cell_below hb hcell, hn.below hb⟩

def orgAt (tr : List Dn) (a : Nat) : Nat := (tr[a]?.getD dn0).org
theorem orgAt_of {tr : List Dn} {a : Nat} {d : Dn} (h : tr[a]? = some d) : orgAt tr a = d.org := by simp [orgAt, h]

/-- How many of the first m commands of the trace are of the replica k and not among xs. -/
def unkN (tr : List Dn) (k : Nat) (xs : List Nat) (m : Nat) : Nat := ((List.range m).filter fun i => decide (orgAt tr i = k) && !inB xs i).length

theorem unkN_succ (tr : List Dn) (k : Nat) (xs : List Nat) (m : Nat) : unkN tr k xs (m + 1) = unkN tr k xs m + if orgAt tr m = k ∧ inB xs m = false then 1 else 0 := by
  unfold unkN
  rw [List.range_succ, List.filter_append, List.length_append]
  by_cases h1 : orgAt tr m = k <;> cases h2 : inB xs m <;> simp [h1, h2]

theorem unkN_le (tr : List Dn) (k : Nat) (xs : List Nat) (m : Nat) : unkN tr k xs m ≤ m := by
  have := List.length_filter_le (fun i => decide (orgAt tr i = k) && !inB xs i) (List.range m)
  simpa [unkN] using this

set_option maxHeartbeats 800000 in
theorem unknown_any (wb : Nat) (tv kv : Value) (tr : List Dn) (xss : List (List Nat)) (k a : Nat) (w : World) (h2 : w.cell? ⟨wb, 2, none⟩ = some tv) (h3 : w.cell? ⟨wb, 3, none⟩ = some kv) (hT : TraceAt w tv tr) (hK : ListsAt w kv xss)
    (hl : tr.length ≤ 1000000000000) (hxl : xss.length ≤ 100) (ha : a < xss.length) (hal : xss[a].length ≤ maxLen) :
    Calls Tryz.prog 42 #[.pointer (some ⟨wb, 0, none⟩), .int .i64 (k : Int), .int .i64 (a : Int)] w fun e w' => e = .returned (.int .i64 (unkN tr k xss[a] tr.length : Int)) ∧ w' = w := by
  obtain ⟨q, cap, rfl, hc⟩ := hT
  obtain ⟨q2, cap2, rfl, hc2⟩ := hK
  obtain ⟨g2, u, rfl, cu, hu⟩ := hc2 a xss[a] (List.getElem?_eq_getElem ha)
  clear hc2
  have HIN : Hid (∀ (n : Nat) W, w = W → Calls Tryz.prog 66 #[u, .int .i64 (n : Int)] W fun e w' => e = .returned (.bool (inB xss[a] n)) ∧ w' = W) := fun n W e => by subst e; exact in_any u xss[a] n w hal hu
  clear hu hal
  have a1 : (a : Int) < (xss.length : Int) := by omega
  have hul := unkN_le tr k xss[a]
  have hus := unkN_succ tr k xss[a]
  generalize xss[a] = xs at *
  have HUS : Hid (∀ m, unkN tr k xs (m + 1) = unkN tr k xs m + if orgAt tr m = k ∧ inB xs m = false then 1 else 0) := hus
  clear hus
  have HU0 : Hid (unkN tr k xs 0 = 0) := by simp [Hid, unkN]
  go_enter Tryz.func42, Tryz.ntmps42
  go_wp2
  go_loop [7, 8] (fun n i => ∃ j : Nat, j ≤ tr.length ∧ i = .int .i64 j ∧ n = .int .i64 (unkN tr k xs j : Int)) (fun _ i => tr.length - (intOf i).toNat)
  case atStart => exact ⟨0, Nat.zero_le _, rfl, by rw [HU0.out]; rfl⟩
  case round =>
    obtain ⟨j, hj, rfl, rfl⟩ := hrel
    have huj := hul j
    have HSN := HUS.out j
    by_cases hlt : j < tr.length
    · obtain ⟨g, bv, rfl, c0, -, -, -, -, -, -, -, -⟩ := hc j tr[j] (List.getElem?_eq_getElem hlt)
      rw [← orgAt_of (List.getElem?_eq_getElem hlt)] at c0
      have k1 : (j : Int) < (tr.length : Int) := by omega
      have HIJ : Hid (∀ W, w = W → Calls Tryz.prog 66 #[u, .int .i64 (j : Int)] W fun e w' => e = .returned (.bool (inB xs j)) ∧ w' = W) := HIN.out j
      clear hc
      generalize hE : unkN tr k xs (j + 1) = m' at *
      have HE : Hid (unkN tr k xs (j + 1) = m') := hE
      clear hE
      generalize unkN tr k xs j = m at *
      generalize orgAt tr j = O at *
      generalize inB xs j = ib at *
      have HS2 : Hid (m' = m + if O = k ∧ ib = false then 1 else 0) := HSN
      clear HSN
      by_cases ho : O = k
      · subst ho
        cases ib
        · have hz : Hid (m' = m + 1) := by have := HS2.out; simpa [Hid] using this
          go_wp2_with (go_at_call 66; refine (HIJ.out _ rfl).mono ?_; rintro e w' ⟨rfl, rfl⟩)
          go_round
          case rel => exact ⟨j + 1, by omega, by go_num, by rw [HE.out, hz.out]; go_num⟩
          case measure => simp [intOf]; omega
        · have hz : Hid (m' = m) := by have := HS2.out; simpa [Hid] using this
          go_wp2_with (go_at_call 66; refine (HIJ.out _ rfl).mono ?_; rintro e w' ⟨rfl, rfl⟩)
          go_round
          case rel => exact ⟨j + 1, by omega, by go_num, by rw [HE.out, hz.out]⟩
          case measure => simp [intOf]; omega
      · have hz : Hid (m' = m) := by have := HS2.out; simpa [Hid, ho] using this
        have b1 : ((O : Int) == (k : Int)) = false := by rw [beq_eq_false_iff_ne]; omega
        clear ho
        go_wp2_with (go_at_call 66; refine (HIJ.out _ rfl).mono ?_; rintro e w' ⟨rfl, rfl⟩)
        go_round
        case rel => exact ⟨j + 1, by omega, by go_num, by rw [HE.out, hz.out]⟩
        case measure => simp [intOf]; omega
    · obtain rfl : j = tr.length := by omega
      clear hc
      go_wp2
      go_ret
      exact ⟨rfl, rfl⟩

end Go.Proofs.YtckmppkdpnhodaaGreatDoor

namespace Go.Proofs.YtckmppkdpnhodaaGreatDoor
set_option linter.unusedVariables false
set_option linter.unusedSimpArgs false
open Go.RowKit

def mineB : ByteArray := ⟨#[109, 105, 110, 101]⟩

/-- A list of commands that its owner has written full of the mark k: m of them. -/
def MarksAt (w : World) (u : Value) (m : Nat) (k : Int) : Prop :=
  ∃ p cap, u = .slice p m cap ∧ ∀ i, i < m → ∃ g, p = some ⟨g, 0, none⟩ ∧ w.cell? ⟨g, i * 3, none⟩ = some (.int .i64 k) ∧ w.cell? ⟨g, i * 3 + 1, none⟩ = some (.int .i64 k) ∧ w.cell? ⟨g, i * 3 + 2, none⟩ = some (.string ⟨#[109, 105, 110, 101]⟩)

theorem MarksAt.below {w w' : World} {u : Value} {m : Nat} {k : Int} (h : MarksAt w u m k) (hb : Below w.heap.size w w') : MarksAt w' u m k := by
  obtain ⟨p, cap, hv, hc⟩ := h
  refine ⟨p, cap, hv, fun i hi => ?_⟩
  obtain ⟨g, hg, c0, c1, c2⟩ := hc i hi
  exact ⟨g, hg, cell_below hb c0, cell_below hb c1, cell_below hb c2⟩

/-- The lists that came out, and their marks. -/
def OsAt (w : World) (v : Value) (bk : List (Nat × Int)) : Prop :=
  ∃ p cap, v = .slice p bk.length cap ∧ ∀ (i : Nat) (e : Nat × Int), bk[i]? = some e → ∃ g u, p = some ⟨g, 0, none⟩ ∧ w.cell? ⟨g, i, none⟩ = some u ∧ MarksAt w u e.1 e.2
def KoAt (w : World) (v : Value) (bk : List (Nat × Int)) : Prop :=
  ∃ p cap, v = .slice p bk.length cap ∧ ∀ (i : Nat) (e : Nat × Int), bk[i]? = some e → ∃ g, p = some ⟨g, 0, none⟩ ∧ w.cell? ⟨g, i, none⟩ = some (.int .i64 e.2)

theorem OsAt.below {w w' : World} {v : Value} {bk : List (Nat × Int)} (h : OsAt w v bk) (hb : Below w.heap.size w w') : OsAt w' v bk := by
  obtain ⟨p, cap, hv, hc⟩ := h
  refine ⟨p, cap, hv, fun i x hx => ?_⟩
  obtain ⟨g, u, hg, hcell, hn⟩ := hc i x hx
  exact ⟨g, u, hg, cell_below hb hcell, hn.below hb⟩
theorem KoAt.below {w w' : World} {v : Value} {bk : List (Nat × Int)} (h : KoAt w v bk) (hb : Below w.heap.size w w') : KoAt w' v bk := by
  obtain ⟨p, cap, hv, hc⟩ := h
  refine ⟨p, cap, hv, fun i x hx => ?_⟩
  obtain ⟨g, hg, hcell⟩ := hc i x hx
  exact ⟨g, hg, cell_below hb hcell⟩

attribute [local go_sem ↓] Go.wp_at_zero Go.wp_at_succ

set_option maxRecDepth 100000 in
set_option maxHeartbeats 2000000 in
theorem kept_any (wb : Nat) (osv kov : Value) (bk : List (Nat × Int)) (w : World) (h8 : w.cell? ⟨wb, 8, none⟩ = some (.slice none 0 0)) (h10 : w.cell? ⟨wb, 10, none⟩ = some osv) (h11 : w.cell? ⟨wb, 11, none⟩ = some kov)
    (h12 : w.cell? ⟨wb, 12, none⟩ = some (.slice none 0 0)) (hO : OsAt w osv bk) (hK : KoAt w kov bk) (hl : bk.length ≤ maxLen) (hm : ∀ e ∈ bk, e.1 ≤ maxLen) :
    Calls Tryz.prog 34 #[.pointer (some ⟨wb, 8, none⟩)] w fun e w' => e = .returned (.bool true) ∧ Below w.heap.size w w' := by
  obtain ⟨p, cap, hp, -⟩ := id hO
  obtain ⟨q, capq, hq, -⟩ := id hK
  subst hp hq
  have hwb := World.block_lt_of_cell? w _ h8
  unfold maxLen at hl hm
  go_enter Tryz.func34, Tryz.ntmps34
  go_wp2
  go_loop [3] (fun i => i = .int .i64 0) (fun _ => 0)
  case atStart => exact rfl
  case round =>
    obtain rfl := hrel
    go_wp2
    go_loopw [5] (fun i wr => ∃ k : Nat, k ≤ bk.length ∧ i = .int .i64 k ∧ Below w.heap.size w wr) (fun i _ => bk.length - (intOf i).toNat)
    case atStart => exact ⟨0, Nat.zero_le _, rfl, Below.refl _ _⟩
    case round =>
      obtain ⟨k, hk, rfl, hbr⟩ := hrel
      obtain ⟨wa, hwa⟩ : ∃ x, x = wr := ⟨_, rfl⟩
      subst hwa
      have g8 := cell_below hbr h8
      have g10 := cell_below hbr h10
      have g11 := cell_below hbr h11
      have g12 := cell_below hbr h12
      have hwl := hbr.size
      by_cases hlt : k < bk.length
      · obtain ⟨p', cap', hp', hc'⟩ := hO.below hbr
        obtain ⟨q', capq', hq', hcq'⟩ := hK.below hbr
        obtain ⟨g, u, hg, cu, hu⟩ := hc' k bk[k] (List.getElem?_eq_getElem hlt)
        obtain ⟨gq, hgq, cq⟩ := hcq' k bk[k] (List.getElem?_eq_getElem hlt)
        obtain ⟨rfl, -, rfl⟩ : p = p' ∧ True ∧ cap = cap' := by simpa using hp'
        obtain ⟨rfl, -, rfl⟩ : q = q' ∧ True ∧ capq = capq' := by simpa using hq'
        subst hg hgq
        have hmk := hm _ (List.getElem_mem hlt)
        generalize bk[k] = E at *
        obtain ⟨m, mk⟩ := E
        simp only at cq hu hmk
        clear hp' hq' hc' hcq' hO hK
        have k0 : (0 : Int) ≤ (k : Int) := by omega
        have k1 : (k : Int) < (bk.length : Int) := by omega
        have n11 := World.new_ne wa _ g11
        have nq := World.new_ne wa _ cq
        go_wp2
        go_region_held3 (fun w' => w'.cell? ⟨wb, 11, none⟩ = some (.slice (some ⟨gq, 0, none⟩) bk.length capq) ∧ w'.cell? ⟨gq, k, none⟩ = some (.int .i64 mk)) (go_keep) (fail)
        obtain ⟨pu, capu, rfl, hcu⟩ := hu
        go_wp2
        go_loopw [7] (fun i wr2 => ∃ j n : Nat, j ≤ m ∧ i = .int .i64 j ∧ wr2 = (wa.alloc (.cells #[.int .i64 mk, .int .i64 mk, .string ⟨#[109, 105, 110, 101]⟩] 68)).drewN n) (fun i _ => m - (intOf i).toNat)
        case atStart => exact ⟨0, 1, Nat.zero_le _, rfl, rfl⟩
        case round =>
          obtain ⟨j, nd, hj, rfl, rfl⟩ := hrel
          have hgl := World.block_lt_of_cell? wa _ cu
          have hwl8 := World.block_lt_of_cell? wa _ g8
          by_cases hjl : j < m
          · obtain ⟨gu, rfl, c0, c1, c2⟩ := hcu j hjl
            have hgu := World.block_lt_of_cell? wa _ c0
            have j0 : (0 : Int) ≤ (j : Int) := by omega
            have j1 : (j : Int) < (m : Int) := by omega
            clear hcu
            go_wp2
            go_quiet ((fail))
            go_wp2
            go_roundw
            case rel => exact ⟨j + 1, _, by omega, by go_num, rfl⟩
            case measure => simp [intOf]; omega
          · clear hcu
            go_wp2
            go_roundw
            case rel => exact ⟨k + 1, by omega, by go_num, below_drewN (hbr.alloc hwl _) _⟩
            case measure => simp [intOf]; omega
      · clear hO hK
        go_wp2
        go_loop [8] (fun i => i = .int .i64 0) (fun _ => 0)
        case atStart => exact rfl
        case round =>
          obtain rfl := hrel
          go_wp2
          go_ret
          exact ⟨rfl, hbr⟩
end Go.Proofs.YtckmppkdpnhodaaGreatDoor
