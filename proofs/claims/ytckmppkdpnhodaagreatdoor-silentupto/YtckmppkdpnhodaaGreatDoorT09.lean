/-
  slices.IndexFunc over items. slices.DeleteFunc over items. slices.DeleteFunc over items. (*Box).Known.
-/
import Derived.Test.YtckmppkdpnhodaaGreatDoorT08
namespace Go.Proofs.YtckmppkdpnhodaaGreatDoor
set_option linter.unusedVariables false
set_option linter.unusedSimpArgs false
open Go.RowKit Go.Proofs

attribute [local go_sem ↓] Go.wp_at_zero Go.wp_at_succ

set_option maxRecDepth 100000 in
set_option maxHeartbeats 4000000 in
theorem indexG (g cap tb cb to cnt : Nat) (its : List It) (hl : its.length ≤ 1000) (cur : Array Value) (w : World) (hq : QRow w g cap its cur) (ht : w.cell? ⟨tb, 0, none⟩ = some (.int .i64 (to : Int))) (hc : w.cell? ⟨cb, 0, none⟩ = some (.int .i64 (cnt : Int))) :
    Calls Tryz.prog 148 #[.slice (some ⟨g, 0, none⟩) its.length cap, .func (.func 109) #[] #[.pointer (some ⟨tb, 0, none⟩), .pointer (some ⟨cb, 0, none⟩)]] w fun e w' =>
      Below w.heap.size w w' ∧ ((e = .returned (.int .i64 (-1)) ∧ ∀ x ∈ its, delB to cnt x = false) ∨ ∃ k, ∃ h : k < its.length, e = .returned (.int .i64 (k : Int)) ∧ delB to cnt its[k] = true ∧ ∀ t, ∀ h : t < its.length, t < k → delB to cnt its[t] = false) := by
  have HQ : Hid (QRow w g cap its cur) := hq
  have HT : Hid (w.cell? ⟨tb, 0, none⟩ = some (.int .i64 (to : Int)) ∧ w.cell? ⟨cb, 0, none⟩ = some (.int .i64 (cnt : Int))) := ⟨ht, hc⟩
  clear hq ht hc
  go_enter Tryz.func148, Tryz.ntmps148
  go_wp2
  go_loopw [8] (fun v wr => ∃ j : Nat, j ≤ its.length ∧ v = .int .i64 j ∧ Hid (Below w.heap.size w wr ∧ ∀ t, ∀ h : t < its.length, t < j → delB to cnt its[t] = false)) (fun v _ => its.length - (intOf v).toNat)
  case atStart => exact ⟨0, Nat.zero_le _, rfl, Below.refl _ _, fun t _ h => by omega⟩
  case round =>
    obtain ⟨j, hj, rfl, HI⟩ := hrel
    by_cases hlt : j < its.length
    · have hr := HQ.out.below HI.out.1
      have j0 : (0 : Int) ≤ (j : Int) := by omega
      have j1 : (j : Int) < (its.length : Int) := by omega
      have HK := known1G tb cb to cnt its[j] wr (cell_below HI.out.1 HT.out.1) (cell_below HI.out.1 HT.out.2)
      obtain ⟨p0, p1, p2, p3, p4, p5, p6, p7, p8, p9, p11, ps, hv, c0, c1, c2, c3, c4, c5, c6, c7, c8, c9, c10, c11⟩ : ∃ (p0 p1 p2 p3 p4 p5 p6 p7 p8 p9 p11 : Int) (ps : ByteArray), its[j].val = .agg #[.int .i64 p0, .int .i64 p1, .int .i64 p2, .int .i64 p3, .int .i64 p4, .int .i64 p5, .int .i64 p6, .int .i64 p7, .int .i64 p8, .int .i64 p9, .string ps, .int .i64 p11] ∧ wr.cell? ⟨g, j * 12, none⟩ = some (.int .i64 p0) ∧ wr.cell? ⟨g, j * 12 + 1, none⟩ = some (.int .i64 p1) ∧ wr.cell? ⟨g, j * 12 + 2, none⟩ = some (.int .i64 p2) ∧ wr.cell? ⟨g, j * 12 + 3, none⟩ = some (.int .i64 p3) ∧ wr.cell? ⟨g, j * 12 + 4, none⟩ = some (.int .i64 p4) ∧ wr.cell? ⟨g, j * 12 + 5, none⟩ = some (.int .i64 p5) ∧ wr.cell? ⟨g, j * 12 + 6, none⟩ = some (.int .i64 p6) ∧ wr.cell? ⟨g, j * 12 + 7, none⟩ = some (.int .i64 p7) ∧ wr.cell? ⟨g, j * 12 + 8, none⟩ = some (.int .i64 p8) ∧ wr.cell? ⟨g, j * 12 + 9, none⟩ = some (.int .i64 p9) ∧ wr.cell? ⟨g, j * 12 + 10, none⟩ = some (.string ps) ∧ wr.cell? ⟨g, j * 12 + 11, none⟩ = some (.int .i64 p11) :=
        ⟨_, _, _, _, _, _, _, _, _, _, _, _, rfl, hr.cell (i := j) (o := 0) hlt (by omega) rfl, hr.cell (i := j) (o := 1) hlt (by omega) rfl, hr.cell (i := j) (o := 2) hlt (by omega) rfl, hr.cell (i := j) (o := 3) hlt (by omega) rfl, hr.cell (i := j) (o := 4) hlt (by omega) rfl, hr.cell (i := j) (o := 5) hlt (by omega) rfl, hr.cell (i := j) (o := 6) hlt (by omega) rfl, hr.cell (i := j) (o := 7) hlt (by omega) rfl, hr.cell (i := j) (o := 8) hlt (by omega) rfl, hr.cell (i := j) (o := 9) hlt (by omega) rfl, hr.cell (i := j) (o := 10) hlt (by omega) rfl, hr.cell (i := j) (o := 11) hlt (by omega) rfl⟩
      simp only [It.val] at hv
      rw [hv] at HK
      have HN : Hid (delB to cnt its[j] = false → ∀ t, ∀ h : t < its.length, t < j + 1 → delB to cnt its[t] = false) := fun hf t h htj => by
        by_cases e : t = j
        · subst e; exact hf
        · exact HI.out.2 t h (by omega)
      obtain ⟨db, hdb⟩ : ∃ db, delB to cnt its[j] = db := ⟨_, rfl⟩
      rw [hdb] at HK
      have HDB : Hid (delB to cnt its[j] = db) := hdb
      have HKK : Hid _ := HK
      clear hv hr HK hdb
      cases db with
      | true =>
        go_wp2_with (go_at_call 109; refine Calls.mono HKK.out ?_; rintro e w1 ⟨rfl, hb1⟩)
        go_ret
        exact ⟨HI.out.1.trans (hb1.mono HI.out.1.size), .inr ⟨j, hlt, rfl, HDB.out, fun t h htj => HI.out.2 t h htj⟩⟩
      | false =>
        go_wp2_with (go_at_call 109; refine Calls.mono HKK.out ?_; rintro e w1 ⟨rfl, hb1⟩)
        go_roundw
        case rel => exact ⟨j + 1, by omega, by go_num, HI.out.1.trans (hb1.mono HI.out.1.size), HN.out HDB.out⟩
        case measure => simp [intOf]; omega
    · go_wp2
      go_ret
      exact ⟨HI.out.1, .inl ⟨rfl, fun x hx => by
        obtain ⟨t, ht, rfl⟩ := List.mem_iff_getElem.1 hx
        exact HI.out.2 t ht (by omega)⟩⟩

end Go.Proofs.YtckmppkdpnhodaaGreatDoor

namespace Go.Proofs.YtckmppkdpnhodaaGreatDoor
set_option linter.unusedVariables false
set_option linter.unusedSimpArgs false
open Go.RowKit Go.Proofs

attribute [local go_sem ↓] Go.wp_at_zero Go.wp_at_succ

theorem setCells_eq (w : World) (g : Nat) : ∀ (vs : List Value) (s : Nat), w.setCells g s vs = setMany' w g s vs
  | [], _ => rfl
  | v :: vs, s => by rw [World.setCells, setMany']; exact setCells_eq _ g vs (s + 1)

/-- clear of the items from the m-th on. -/
theorem clear12 (g m n c : Nat) (cur : Array Value) (w : World) (hb : w.heap[g]? = some (.cells cur 171 (0, 0))) (hs : (m + n) * 12 ≤ cur.size) :
    ∃ w', (∀ ty, (Builtin.clear_ #[108] ty #[.slice (some ⟨g, m * 12, none⟩) n c]).run Tryz.prog w = .ok (.tuple #[]) w') ∧ (∃ cur', w'.heap[g]? = some (.cells cur' 171 (0, 0)) ∧ cur'.size = cur.size ∧ cur'.toList.take (m * 12) = cur.toList.take (m * 12)) ∧ Upd [some g] w w' := by
  rcases n with _ | n
  · exact ⟨w, fun ty => by simp [Builtin.clear_, run_underlying Tryz.underlying108], ⟨cur, hb, rfl, rfl⟩, Upd.refl _ _⟩
  · obtain ⟨zs, hzs⟩ : ∃ zs, zs = (Builtin.zeroCells #[.int .i64 0, .int .i64 0, .int .i64 0, .int .i64 0, .int .i64 0, .int .i64 0, .int .i64 0, .int .i64 0, .int .i64 0, .int .i64 0, .string ⟨#[]⟩, .int .i64 0] (n + 1)).toList := ⟨_, rfl⟩
    have hlen : zs.length = (n + 1) * 12 := by rw [hzs]; simp [Builtin.zeroCells]
    have hone : ∀ v ∈ zs, v.oneCell' = true := by
      intro v hv
      rw [hzs] at hv
      simp only [Builtin.zeroCells, Array.toList_map, List.mem_map] at hv
      obtain ⟨t, -, rfl⟩ := hv
      have : t % 12 < 12 := Nat.mod_lt _ (by omega)
      show (#[Value.int .i64 0, .int .i64 0, .int .i64 0, .int .i64 0, .int .i64 0, .int .i64 0, .int .i64 0, .int .i64 0, .int .i64 0, .int .i64 0, .string ⟨#[]⟩, .int .i64 0][t % 12]!).oneCell' = true
      generalize t % 12 = r at *
      rcases (show r = 0 ∨ r = 1 ∨ r = 2 ∨ r = 3 ∨ r = 4 ∨ r = 5 ∨ r = 6 ∨ r = 7 ∨ r = 8 ∨ r = 9 ∨ r = 10 ∨ r = 11 by omega) with rfl | rfl | rfl | rfl | rfl | rfl | rfl | rfl | rfl | rfl | rfl | rfl <;> rfl
    have hst := run_storeCells_cells (P := Tryz.prog) g (m * 12) zs 0 w (fun t ht => by
      rw [cell_of_heap hb, Array.getElem?_eq_getElem (by omega)]; rfl) (fun t ht => frozen_of_heap hb _) hone
    simp only [Nat.add_zero] at hst
    refine ⟨w.setCells g (m * 12) zs, ?_, ⟨putMany cur (m * 12) zs, by rw [setCells_eq]; exact setMany_heap zs (m * 12) w cur hb, putMany_size _ _ _, ?_⟩, by rw [setCells_eq]; exact setMany_upd _ _ _⟩
    · intro ty
      have hz := Tryz.zeroValue171
      have hzc : (Value.agg #[.int .i64 0, .int .i64 0, .int .i64 0, .int .i64 0, .int .i64 0, .int .i64 0, .int .i64 0, .int .i64 0, .int .i64 0, .int .i64 0, .string ⟨#[]⟩, .int .i64 0]).cells = #[.int .i64 0, .int .i64 0, .int .i64 0, .int .i64 0, .int .i64 0, .int .i64 0, .int .i64 0, .int .i64 0, .int .i64 0, .int .i64 0, .string ⟨#[]⟩, .int .i64 0] := rfl
      simp [Builtin.clear_, run_underlying Tryz.underlying108, hz, hzc, ← hzs, hst]
    · apply List.ext_getElem?
      intro t
      by_cases ht : t < m * 12
      · rw [List.getElem?_take_of_lt ht, List.getElem?_take_of_lt ht, Array.getElem?_toList, Array.getElem?_toList, putMany_get _ _ _ t (by omega), if_neg (by omega)]
      · rw [List.getElem?_eq_none (by rw [List.length_take]; omega), List.getElem?_eq_none (by rw [List.length_take]; omega)]

end Go.Proofs.YtckmppkdpnhodaaGreatDoor

namespace Go.Proofs.YtckmppkdpnhodaaGreatDoor
set_option linter.unusedVariables false
set_option linter.unusedSimpArgs false
open Go.RowKit Go.Proofs

attribute [local go_sem ↓] Go.wp_at_zero Go.wp_at_succ

/-- The items that stay. -/
def keepL (to cnt : Nat) (its : List It) : List It := its.filter fun x => !delB to cnt x

theorem keepL_snoc (to cnt : Nat) (its : List It) (x : It) : keepL to cnt (its ++ [x]) = if delB to cnt x = true then keepL to cnt its else keepL to cnt its ++ [x] := by
  unfold keepL
  rw [List.filter_append]
  cases h : delB to cnt x <;> simp [h]

theorem keepL_le (to cnt : Nat) (its : List It) : (keepL to cnt its).length ≤ its.length := List.length_filter_le _ _

/-- Between two rounds: what stays of the first j lies ahead, what is to come lies as it did. -/
structure DelI (w : World) (g cap to cnt : Nat) (its : List It) (cur : Array Value) (i j : Nat) (its' : List It) (cur' : Array Value) (W : World) : Prop where
  row : QRow W g cap its' cur'
  len : its'.length = its.length
  csz : cur'.size = cur.size
  fst : its'.take i = keepL to cnt (its.take j)
  rest : ∀ t, j ≤ t → its'[t]? = its[t]?
  upd : Upd [some g] w W

theorem DelI.below {w : World} {g cap to cnt : Nat} {its : List It} {cur : Array Value} {i j : Nat} {its' : List It} {cur' : Array Value} {W W' : World} (h : DelI w g cap to cnt its cur i j its' cur' W) (hb : Below W.heap.size W W') : DelI w g cap to cnt its cur i j its' cur' W' :=
  ⟨h.row.below hb, h.len, h.csz, h.fst, h.rest, h.upd.trans (Upd.of_below (S := [some g]) hb) (fun i hi => .inl hi)⟩

theorem DelI.drop {w : World} {g cap to cnt : Nat} {its : List It} {cur : Array Value} {i j : Nat} {its' : List It} {cur' : Array Value} {W : World} (h : DelI w g cap to cnt its cur i j its' cur' W) (hj : j < its.length) (hd : delB to cnt its[j] = true) : DelI w g cap to cnt its cur i (j + 1) its' cur' W := by
  refine ⟨h.row, h.len, h.csz, ?_, fun t ht => h.rest t (by omega), h.upd⟩
  rw [take_snocP its j hj, keepL_snoc, if_pos hd]
  exact h.fst

theorem DelI.keep {w : World} {g cap to cnt : Nat} {its : List It} {cur : Array Value} {i j : Nat} {its' : List It} {cur' : Array Value} {W : World} (h : DelI w g cap to cnt its cur i j its' cur' W) (hij : i < j) (hj : j < its.length) (hd : delB to cnt its[j] = false) {xs : List Value} (hxs : xs = its[j].cells) :
    DelI w g cap to cnt its cur (i + 1) (j + 1) (its'.set i its[j]) (putMany cur' (i * 12) xs) (setMany' W g (i * 12) xs) := by
  have hl := h.len
  have hsz : its'.length * 12 ≤ cur'.size := Nat.le_trans (Nat.mul_le_mul_right _ h.row.le) h.row.size
  refine ⟨⟨setMany_heap xs (i * 12) W cur' h.row.blk, by simpa using h.row.le, by rw [putMany_size]; exact h.row.size, ?_⟩, by simpa using hl, by rw [putMany_size]; exact h.csz, ?_, fun t ht => ?_, h.upd.trans (setMany_upd _ _ _) (fun i hi => .inl hi)⟩
  · rw [List.length_set, hxs]
    exact itRow_set rfl hsz h.row.row (by omega) its[j]
  · rw [take_snocP its j hj, keepL_snoc, if_neg (by simp [hd]), ← h.fst, take_snocP _ i (by simp; omega), List.getElem_set_self, List.take_set_of_le (Nat.le_refl _)]
  · rw [List.getElem?_set_ne (by omega)]
    exact h.rest t (by omega)

set_option maxRecDepth 100000 in
set_option maxHeartbeats 8000000 in
theorem deleteG (g cap tb cb to cnt : Nat) (its : List It) (hl : its.length ≤ 1000) (cur : Array Value) (hm : cap ≤ maxLen) (w : World) (hq : QRow w g cap its cur) (htb : tb ≠ g) (hcb : cb ≠ g) (ht : w.cell? ⟨tb, 0, none⟩ = some (.int .i64 (to : Int))) (hc : w.cell? ⟨cb, 0, none⟩ = some (.int .i64 (cnt : Int))) :
    Calls Tryz.prog 108 #[.slice (some ⟨g, 0, none⟩) its.length cap, .func (.func 109) #[] #[.pointer (some ⟨tb, 0, none⟩), .pointer (some ⟨cb, 0, none⟩)]] w fun e w' =>
      e = .returned (.slice (some ⟨g, 0, none⟩) (keepL to cnt its).length cap) ∧ ∃ cur', QRow w' g cap (keepL to cnt its) cur' ∧ cur'.size = cur.size ∧ Upd [some g] w w' := by
  unfold maxLen at hm
  have hle := hq.le
  have HX : Hid (Calls Tryz.prog 148 #[.slice (some ⟨g, 0, none⟩) its.length cap, .func (.func 109) #[] #[.pointer (some ⟨tb, 0, none⟩), .pointer (some ⟨cb, 0, none⟩)]] w fun e w' =>
      ∃ z : Int, e = .returned (.int .i64 z) ∧ ((z = -1 ∧ Hid (keepL to cnt its = its ∧ Below w.heap.size w w')) ∨ ∃ k : Nat, z = (k : Int) ∧ k < its.length ∧ Hid (DelI w g cap to cnt its cur k (k + 1) its cur w'))) := by
    refine (indexG g cap tb cb to cnt its hl cur w hq ht hc).mono ?_
    rintro e w' ⟨hb, ⟨rfl, h⟩ | ⟨k, hk, rfl, h1, h2⟩⟩
    · exact ⟨-1, rfl, .inl ⟨rfl, List.filter_eq_self.2 (fun x hx => by rw [h x hx]; rfl), hb⟩⟩
    · refine ⟨k, rfl, .inr ⟨k, rfl, hk, ?_⟩⟩
      have h0 : DelI w g cap to cnt its cur k k its cur w := ⟨hq, rfl, rfl, (List.filter_eq_self.2 (fun x hx => by
        obtain ⟨t, ht', rfl⟩ := List.mem_iff_getElem.1 hx
        have htk : t < k := by simp at ht'; omega
        rw [List.getElem_take, h2 t (by omega) htk]; rfl)).symm, fun _ _ => rfl, Upd.refl _ _⟩
      exact (h0.drop hk h1).below hb
  have HC : Hid (∀ W, Upd [some g] w W → W.cell? ⟨tb, 0, none⟩ = some (.int .i64 (to : Int)) ∧ W.cell? ⟨cb, 0, none⟩ = some (.int .i64 (cnt : Int))) := fun W hW =>
    ⟨(World.cell?_of_block (a := ⟨tb, 0, none⟩) (hW.block tb (World.block_lt_of_cell? w _ ht) (by simp; exact htb))).trans ht, (World.cell?_of_block (a := ⟨cb, 0, none⟩) (hW.block cb (World.block_lt_of_cell? w _ hc) (by simp; exact hcb))).trans hc⟩
  have HQ : Hid (QRow w g cap its cur) := hq
  clear hq ht hc
  go_enter Tryz.func108, Tryz.ntmps108
  go_upto_region 2 with (go_at_call 148; refine Calls.mono HX.out ?_; rintro e wi ⟨z, rfl, hz⟩)
  rcases hz with ⟨rfl, hz⟩ | ⟨k, rfl, hk, hI⟩
  · go_wp2
    go_ret
    obtain ⟨e1, hb⟩ := hz.out
    rw [e1]
    exact ⟨rfl, cur, HQ.out.below hb, rfl, Upd.of_below hb⟩
  · have ek : ((k : Int) == -1) = false := beq_eq_false_iff_ne.2 (by omega)
    go_wp2
    go_loopw [5, 6] (fun vi vj wr => ∃ i j : Nat, vi = .int .i64 i ∧ vj = .int .i64 j ∧ i < j ∧ j ≤ its.length ∧ ∃ its' cur', Hid (DelI w g cap to cnt its cur i j its' cur' wr)) (fun _ vj _ => its.length - (intOf vj).toNat)
    case atStart => exact ⟨k, k + 1, rfl, by go_num, by omega, by omega, its, cur, hI⟩
    case round =>
      obtain ⟨i, j, rfl, rfl, hij, hj, its', cur', HD⟩ := hrel
      have i0 : (0 : Int) ≤ (i : Int) := by omega
      have i1 : (i : Int) < (its.length : Int) := by omega
      have j0 : (0 : Int) ≤ (j : Int) := by omega
      have hlen := HD.out.len
      have hgl : g < wr.heap.size := (Array.getElem?_eq_some_iff.1 HD.out.row.blk).1
      by_cases hlt : j < its.length
      · have j1 : (j : Int) < (its.length : Int) := by omega
        have hij' : its'[j]'(by omega) = its[j] := by
          have := HD.out.rest j (Nat.le_refl _)
          rw [List.getElem?_eq_getElem (by omega), List.getElem?_eq_getElem hlt] at this
          exact Option.some.inj this
        have hcj : ∀ o v, o < 12 → its[j].cells[o]? = some v → wr.cell? ⟨g, j * 12 + o, none⟩ = some v := fun o v ho hv => HD.out.row.cell (i := j) (o := o) (by omega) ho (by rw [hij']; exact hv)
        obtain ⟨p0, p1, p2, p3, p4, p5, p6, p7, p8, p9, p11, ps, hxc, hxv, c0, c1, c2, c3, c4, c5, c6, c7, c8, c9, c10, c11⟩ : ∃ (p0 p1 p2 p3 p4 p5 p6 p7 p8 p9 p11 : Int) (ps : ByteArray), its[j].cells = [.int .i64 p0, .int .i64 p1, .int .i64 p2, .int .i64 p3, .int .i64 p4, .int .i64 p5, .int .i64 p6, .int .i64 p7, .int .i64 p8, .int .i64 p9, .string ps, .int .i64 p11] ∧ its[j].val = .agg #[.int .i64 p0, .int .i64 p1, .int .i64 p2, .int .i64 p3, .int .i64 p4, .int .i64 p5, .int .i64 p6, .int .i64 p7, .int .i64 p8, .int .i64 p9, .string ps, .int .i64 p11] ∧ wr.cell? ⟨g, j * 12, none⟩ = some (.int .i64 p0) ∧ wr.cell? ⟨g, j * 12 + 1, none⟩ = some (.int .i64 p1) ∧ wr.cell? ⟨g, j * 12 + 2, none⟩ = some (.int .i64 p2) ∧ wr.cell? ⟨g, j * 12 + 3, none⟩ = some (.int .i64 p3) ∧ wr.cell? ⟨g, j * 12 + 4, none⟩ = some (.int .i64 p4) ∧ wr.cell? ⟨g, j * 12 + 5, none⟩ = some (.int .i64 p5) ∧ wr.cell? ⟨g, j * 12 + 6, none⟩ = some (.int .i64 p6) ∧ wr.cell? ⟨g, j * 12 + 7, none⟩ = some (.int .i64 p7) ∧ wr.cell? ⟨g, j * 12 + 8, none⟩ = some (.int .i64 p8) ∧ wr.cell? ⟨g, j * 12 + 9, none⟩ = some (.int .i64 p9) ∧ wr.cell? ⟨g, j * 12 + 10, none⟩ = some (.string ps) ∧ wr.cell? ⟨g, j * 12 + 11, none⟩ = some (.int .i64 p11) :=
          ⟨_, _, _, _, _, _, _, _, _, _, _, _, rfl, rfl, hcj 0 _ (by omega) rfl, hcj 1 _ (by omega) rfl, hcj 2 _ (by omega) rfl, hcj 3 _ (by omega) rfl, hcj 4 _ (by omega) rfl, hcj 5 _ (by omega) rfl, hcj 6 _ (by omega) rfl, hcj 7 _ (by omega) rfl, hcj 8 _ (by omega) rfl, hcj 9 _ (by omega) rfl, hcj 10 _ (by omega) rfl, hcj 11 _ (by omega) rfl⟩
        have HB : Hid (Below wr.heap.size wr (wr.alloc (.cells #[.int .i64 p0, .int .i64 p1, .int .i64 p2, .int .i64 p3, .int .i64 p4, .int .i64 p5, .int .i64 p6, .int .i64 p7, .int .i64 p8, .int .i64 p9, .string ps, .int .i64 p11] 171))) := (Below.refl _ wr).alloc (Nat.le_refl _) _
        have HK := known1G tb cb to cnt its[j] (wr.alloc (.cells #[.int .i64 p0, .int .i64 p1, .int .i64 p2, .int .i64 p3, .int .i64 p4, .int .i64 p5, .int .i64 p6, .int .i64 p7, .int .i64 p8, .int .i64 p9, .string ps, .int .i64 p11] 171)) (cell_below HB.out (HC.out wr HD.out.upd).1) (cell_below HB.out (HC.out wr HD.out.upd).2)
        simp only [It.val] at hxv
        rw [hxv] at HK
        obtain ⟨db, hdb⟩ : ∃ db, delB to cnt its[j] = db := ⟨_, rfl⟩
        rw [hdb] at HK
        have HDB : Hid (delB to cnt its[j] = db) := hdb
        have HXC : Hid ([.int .i64 p0, .int .i64 p1, .int .i64 p2, .int .i64 p3, .int .i64 p4, .int .i64 p5, .int .i64 p6, .int .i64 p7, .int .i64 p8, .int .i64 p9, .string ps, .int .i64 p11] = its[j].cells) := hxc.symm
        have HKK : Hid _ := HK
        have HW1 : Hid (∀ w1, Below (wr.alloc (.cells #[.int .i64 p0, .int .i64 p1, .int .i64 p2, .int .i64 p3, .int .i64 p4, .int .i64 p5, .int .i64 p6, .int .i64 p7, .int .i64 p8, .int .i64 p9, .string ps, .int .i64 p11] 171)).heap.size (wr.alloc (.cells #[.int .i64 p0, .int .i64 p1, .int .i64 p2, .int .i64 p3, .int .i64 p4, .int .i64 p5, .int .i64 p6, .int .i64 p7, .int .i64 p8, .int .i64 p9, .string ps, .int .i64 p11] 171)) w1 → DelI w g cap to cnt its cur i j its' cur' w1 ∧ (∀ o, w1.frozen? ⟨g, o, none⟩ = false) ∧ (w1.cell? ⟨wr.heap.size, 0, none⟩ = some (.int .i64 p0) ∧ w1.cell? ⟨wr.heap.size, 1, none⟩ = some (.int .i64 p1) ∧ w1.cell? ⟨wr.heap.size, 2, none⟩ = some (.int .i64 p2) ∧ w1.cell? ⟨wr.heap.size, 3, none⟩ = some (.int .i64 p3) ∧ w1.cell? ⟨wr.heap.size, 4, none⟩ = some (.int .i64 p4) ∧ w1.cell? ⟨wr.heap.size, 5, none⟩ = some (.int .i64 p5) ∧ w1.cell? ⟨wr.heap.size, 6, none⟩ = some (.int .i64 p6) ∧ w1.cell? ⟨wr.heap.size, 7, none⟩ = some (.int .i64 p7) ∧ w1.cell? ⟨wr.heap.size, 8, none⟩ = some (.int .i64 p8) ∧ w1.cell? ⟨wr.heap.size, 9, none⟩ = some (.int .i64 p9) ∧ w1.cell? ⟨wr.heap.size, 10, none⟩ = some (.string ps) ∧ w1.cell? ⟨wr.heap.size, 11, none⟩ = some (.int .i64 p11)) ∧ ∃ (q0 q1 q2 q3 q4 q5 q6 q7 q8 q9 q11 : Int) (qs : ByteArray), True ∧ w1.cell? ⟨g, i * 12, none⟩ = some (.int .i64 q0) ∧ w1.cell? ⟨g, i * 12 + 1, none⟩ = some (.int .i64 q1) ∧ w1.cell? ⟨g, i * 12 + 2, none⟩ = some (.int .i64 q2) ∧ w1.cell? ⟨g, i * 12 + 3, none⟩ = some (.int .i64 q3) ∧ w1.cell? ⟨g, i * 12 + 4, none⟩ = some (.int .i64 q4) ∧ w1.cell? ⟨g, i * 12 + 5, none⟩ = some (.int .i64 q5) ∧ w1.cell? ⟨g, i * 12 + 6, none⟩ = some (.int .i64 q6) ∧ w1.cell? ⟨g, i * 12 + 7, none⟩ = some (.int .i64 q7) ∧ w1.cell? ⟨g, i * 12 + 8, none⟩ = some (.int .i64 q8) ∧ w1.cell? ⟨g, i * 12 + 9, none⟩ = some (.int .i64 q9) ∧ w1.cell? ⟨g, i * 12 + 10, none⟩ = some (.string qs) ∧ w1.cell? ⟨g, i * 12 + 11, none⟩ = some (.int .i64 q11)) := fun w1 hb1 => by
          have hD1 := (HD.out.below HB.out).below hb1
          have hbx : w1.heap[wr.heap.size]? = some (.cells #[.int .i64 p0, .int .i64 p1, .int .i64 p2, .int .i64 p3, .int .i64 p4, .int .i64 p5, .int .i64 p6, .int .i64 p7, .int .i64 p8, .int .i64 p9, .string ps, .int .i64 p11] 171 (0, 0)) := (hb1.block _ (by simp)).trans (heap_alloc_new wr _)
          have hci : ∀ o v, o < 12 → (its'[i]'(by omega)).cells[o]? = some v → w1.cell? ⟨g, i * 12 + o, none⟩ = some v := fun o v ho hv => hD1.row.cell (i := i) (o := o) (by omega) ho hv
          exact ⟨hD1, frozen_of_heap hD1.row.blk, ⟨by rw [cell_of_heap hbx]; rfl, by rw [cell_of_heap hbx]; rfl, by rw [cell_of_heap hbx]; rfl, by rw [cell_of_heap hbx]; rfl, by rw [cell_of_heap hbx]; rfl, by rw [cell_of_heap hbx]; rfl, by rw [cell_of_heap hbx]; rfl, by rw [cell_of_heap hbx]; rfl, by rw [cell_of_heap hbx]; rfl, by rw [cell_of_heap hbx]; rfl, by rw [cell_of_heap hbx]; rfl, by rw [cell_of_heap hbx]; rfl⟩, ⟨_, _, _, _, _, _, _, _, _, _, _, _, trivial, hci 0 _ (by omega) rfl, hci 1 _ (by omega) rfl, hci 2 _ (by omega) rfl, hci 3 _ (by omega) rfl, hci 4 _ (by omega) rfl, hci 5 _ (by omega) rfl, hci 6 _ (by omega) rfl, hci 7 _ (by omega) rfl, hci 8 _ (by omega) rfl, hci 9 _ (by omega) rfl, hci 10 _ (by omega) rfl, hci 11 _ (by omega) rfl⟩⟩
        clear hcj hxc hxv HK hdb hij'
        cases db with
        | true =>
          go_wp2_with (go_at_call 109; refine Calls.mono HKK.out ?_; rintro e w1 ⟨rfl, hb1⟩)
          go_roundw
          case rel => exact ⟨i, j + 1, rfl, by go_num, by omega, by omega, its', cur', ((HW1.out _ hb1).1.drop hlt HDB.out)⟩
          case measure => simp [intOf]; omega
        | false =>
          go_wp2_with (go_at_call 109; refine Calls.mono HKK.out ?_; rintro e w1 ⟨rfl, hb1⟩; obtain ⟨hD1, hf1, ⟨b0, b1, b2, b3, b4, b5, b6, b7, b8, b9, b10, b11⟩, q0, q1, q2, q3, q4, q5, q6, q7, q8, q9, q11, qs, -, d0, d1, d2, d3, d4, d5, d6, d7, d8, d9, d10, d11⟩ := HW1.out w1 hb1; have HD1 : Hid _ := hD1; clear hD1)
          go_roundw
          case rel =>
            have hk := HD1.out.keep hij hlt HDB.out HXC.out
            simp only [setMany', Nat.add_assoc, Nat.reduceAdd] at hk
            exact ⟨i + 1, j + 1, by go_num, by go_num, by omega, by omega, _, _, hk⟩
          case measure => simp [intOf]; omega
      · have hjn : j = its.length := by omega
        have hfs : its'.take i = keepL to cnt its := by have := HD.out.fst; rwa [hjn, List.take_length] at this
        have hil : (keepL to cnt its).length = i := by rw [← hfs, List.length_take]; omega
        have hcap : its.length ≤ cap := hle
        have hsz := HD.out.row.size
        obtain ⟨w', hcl, ⟨cur2, hb2, hs2, ht2⟩, hu2⟩ := clear12 g i (its.length - i) (cap - i) cur' wr HD.out.row.blk (by rw [show i + (its.length - i) = its.length by omega]; exact Nat.le_trans (Nat.mul_le_mul_right _ hcap) hsz)
        have HE : Hid (∃ cur', QRow w' g cap (keepL to cnt its) cur' ∧ cur'.size = cur.size ∧ Upd [some g] w w') := by
          refine ⟨cur2, ⟨hb2, by omega, by rw [hs2]; exact hsz, ?_⟩, by rw [hs2]; exact HD.out.csz, HD.out.upd.trans hu2 (fun i hi => .inl hi)⟩
          rw [hil, ht2]
          have hr := HD.out.row.row
          have : (cur'.toList.take (its'.length * 12)).take (i * 12) = (itRow its').take (i * 12) := by rw [hr]
          rw [List.take_take, Nat.min_eq_left (by omega)] at this
          rw [this, ← hfs]
          have hsp : itRow its' = itRow (its'.take i) ++ itRow (its'.drop i) := by
            unfold itRow
            rw [← List.flatMap_append, List.take_append_drop]
          rw [hsp]
          exact List.take_left' (by rw [itRow_length, List.length_take]; congr 1; omega)
        have ic : (i : Int) ≤ (cap : Int) := by omega
        have il : (i : Int) ≤ (its.length : Int) := by omega
        have lc : (its.length : Int) ≤ (cap : Int) := by omega
        have nj : ¬ (j : Int) < (its.length : Int) := by omega
        clear hb2 hs2 ht2 hu2 hsz hfs
        go_wp2
        go_ret
        exact ⟨rfl, HE.out⟩

end Go.Proofs.YtckmppkdpnhodaaGreatDoor

namespace Go.Proofs.YtckmppkdpnhodaaGreatDoor
set_option linter.unusedVariables false
set_option linter.unusedSimpArgs false
open Go.RowKit Go.Proofs

attribute [local go_sem ↓] Go.wp_at_zero Go.wp_at_succ

set_option maxRecDepth 100000 in
set_option maxHeartbeats 2000000 in
theorem index_nil (fv : Value) (w : World) : Calls Tryz.prog 148 #[.slice none 0 0, fv] w fun e w' => e = .returned (.int .i64 (-1)) ∧ w' = w := by
  go_enter Tryz.func148, Tryz.ntmps148
  go_wp2
  go_loopw [8] (fun v wr => v = .int .i64 0 ∧ wr = w) (fun _ _ => 0)
  case atStart => exact ⟨rfl, rfl⟩
  case round =>
    obtain ⟨rfl, rfl⟩ := hrel
    go_wp2
    go_ret
    exact ⟨rfl, rfl⟩

set_option maxRecDepth 100000 in
set_option maxHeartbeats 2000000 in
theorem delete_nil (fv : Value) (w : World) : Calls Tryz.prog 108 #[.slice none 0 0, fv] w fun e w' => e = .returned (.slice none 0 0) ∧ w' = w := by
  have HX : Hid (Calls Tryz.prog 148 #[.slice none 0 0, fv] w fun e w' => e = .returned (.int .i64 (-1)) ∧ w' = w) := index_nil fv w
  go_enter Tryz.func108, Tryz.ntmps108
  go_wp2_with (go_at_call 148; refine Calls.mono HX.out ?_; rintro e wi ⟨rfl, hw⟩; have hw' := hw.symm; clear hw; subst hw')
  go_ret
  exact ⟨rfl, rfl⟩

/-- What Known of the box leaves. -/
structure KTo (w : World) (rb : Nat) (C : Array Value) (T : TypeId) (wv : Value) (wv' : Value) (its' : List It) (W : World) : Prop where
  q : QAt W rb (C.setIfInBounds 11 wv') T wv' its'
  own : wv'.ownBlock = wv.ownBlock
  upd : Upd [some rb, wv.ownBlock] w W

set_option maxRecDepth 100000 in
set_option maxHeartbeats 8000000 in
theorem knownG (rb to cnt : Nat) (its : List It) (hl : its.length ≤ 1000) (wv : Value) (C : Array Value) (T : TypeId) (w : World) (hq : QAt w rb C T wv its) :
    Calls Tryz.prog 61 #[.pointer (some ⟨rb, 10, none⟩), .int .i64 (to : Int), .int .i64 (cnt : Int)] w fun e w' => e = .returned (.tuple #[]) ∧ ∃ wv' its', KTo w rb C T wv wv' its' w' ∧ its'.Perm (keepL to cnt its) ∧ HeapFrom 0 its'.length (kF its') := by
  have hrl : rb < w.heap.size := (Array.getElem?_eq_some_iff.1 hq.rbk).1
  have hC : 11 < C.size := (Array.getElem?_eq_some_iff.1 hq.c11).1
  obtain ⟨wa, hwa⟩ : ∃ wa, (w.alloc (.cells #[.int .i64 (to : Int)] 3)).alloc (.cells #[.int .i64 (cnt : Int)] 3) = wa := ⟨_, rfl⟩
  have hba : Below w.heap.size w wa := by rw [← hwa]; exact ((Below.refl _ w).alloc (Nat.le_refl _) _).alloc (by simp) _
  have hta : wa.heap[w.heap.size]? = some (.cells #[.int .i64 (to : Int)] 3 (0, 0)) := by rw [← hwa]; exact (Below.heap_alloc _ _ _ (by simp)).trans (heap_alloc_new w _)
  have hca : wa.heap[w.heap.size + 1]? = some (.cells #[.int .i64 (cnt : Int)] 3 (0, 0)) := by
    rw [← hwa]
    have := heap_alloc_new (w.alloc (.cells #[.int .i64 (to : Int)] 3)) (.cells #[.int .i64 (cnt : Int)] 3)
    simpa only [World.size_alloc] using this
  have hqa := hq.below hba
  have c11 : wa.cell? ⟨rb, 11, none⟩ = some wv := by rw [cell_of_heap hqa.rbk]; exact hqa.c11
  have hwl : ∀ b, wv.ownBlock = some b → b < w.heap.size := fun b hb => (hq.row.lt b hb).2
  have HD : Hid (Calls Tryz.prog 108 #[wv, .func (.func 109) #[] #[.pointer (some ⟨w.heap.size, 0, none⟩), .pointer (some ⟨w.heap.size + 1, 0, none⟩)]] wa fun e w' =>
      ∃ p n c, e = .returned (.slice p n c) ∧ w'.cell? ⟨rb, 11, none⟩ = some wv ∧ w'.frozen? ⟨rb, 11, none⟩ = false ∧ Hid ((Value.slice p n c).ownBlock = wv.ownBlock ∧ w'.ownsRow 0 171 12 (.slice p n c) (keepL to cnt its).length (itRow (keepL to cnt its)) ∧ w'.heap[rb]? = some (.cells C T (0, 0)) ∧ Upd [wv.ownBlock] wa w')) := by
    rcases id hqa.row.2 with ⟨h1, h0⟩ | ⟨g, cap, cur, h1, -, hg, hle, hm, hs, ht⟩
    · subst h1
      refine (delete_nil _ wa).mono ?_
      rintro e w' ⟨rfl, rfl⟩
      have he : its = [] := List.length_eq_zero_iff.1 h0
      subst he
      exact ⟨none, 0, 0, rfl, c11, frozen_of_heap hqa.rbk _, rfl, hqa.row, hqa.rbk, Upd.refl _ _⟩
    · subst h1
      have hgr : g ≠ rb := fun e => hq.ne (by rw [e]; rfl)
      have hgl := hwl g rfl
      refine (deleteG g cap w.heap.size (w.heap.size + 1) to cnt its hl cur hm wa ⟨hg, hle, by omega, ht⟩ (by omega) (by omega) (by rw [cell_of_heap hta]; rfl) (by rw [cell_of_heap hca]; rfl)).mono ?_
      rintro e w' ⟨rfl, cur', hr, hcs, hu⟩
      have hrb' : w'.heap[rb]? = some (.cells C T (0, 0)) := (hu.block rb (Array.getElem?_eq_some_iff.1 hqa.rbk).1 (by simp; exact fun e => hgr e.symm)).trans hqa.rbk
      exact ⟨_, _, _, rfl, by rw [cell_of_heap hrb']; exact hq.c11, frozen_of_heap hrb' _, rfl, own_of_qrow hr (hcs.trans hs) hm (Nat.zero_le _), hrb', hu⟩
  have HI : Hid (∀ w1 p n c, Hid ((Value.slice p n c).ownBlock = wv.ownBlock ∧ w1.ownsRow 0 171 12 (.slice p n c) (keepL to cnt its).length (itRow (keepL to cnt its)) ∧ w1.heap[rb]? = some (.cells C T (0, 0)) ∧ Upd [wv.ownBlock] wa w1) → Calls Tryz.prog 110 #[.iface 175 (.pointer (some ⟨rb, 11, none⟩))] (w1.setCell ⟨rb, 11, none⟩ (.slice p n c)) fun e w' => e = .returned (.tuple #[]) ∧ ∃ wv' its', KTo w rb C T wv wv' its' w' ∧ its'.Perm (keepL to cnt its) ∧ HeapFrom 0 its'.length (kF its')) := fun w1 p n c h1 => by
    obtain ⟨ho, hr1, hb1, hu1⟩ := h1.out
    have hne : (Value.slice p n c).ownBlock ≠ some rb := by rw [ho]; exact hq.ne
    have hqs : QAt (w1.setCell ⟨rb, 11, none⟩ (.slice p n c)) rb (C.setIfInBounds 11 (.slice p n c)) T (.slice p n c) (keepL to cnt its) :=
      ⟨heap_setCell_same hb1 _, Array.getElem?_setIfInBounds_self_of_lt hC, owns_setCell_other hr1 (fun b hb e => hne (by rw [hb, e])) _, hne⟩
    refine (initG rb (keepL to cnt its) (Nat.le_trans (keepL_le _ _ _) hl) (.slice p n c) _ T _ hqs).mono ?_
    rintro e w' ⟨he, its', hq', hp, hh, hu'⟩
    refine ⟨he, .slice p n c, its', ⟨hq', ho, ?_⟩, hp, hh⟩
    have u1 : Upd [some rb, wv.ownBlock] w (w1.setCell ⟨rb, 11, none⟩ (.slice p n c)) := ((Upd.of_below (S := [some rb, wv.ownBlock]) hba).trans hu1 (fun i hi => .inl (List.mem_cons_of_mem _ hi))).setCell (.inl (by simp)) _
    rw [ho] at hu'
    exact u1.trans hu' (fun i hi => .inl (List.mem_cons_of_mem _ hi))
  clear hq hqa hta hca
  go_enter Tryz.func61, Tryz.ntmps61
  go_wp2_with (first
    | (go_at_call 108; refine Calls.mono HD.out ?_; rintro e w1 ⟨p, n, c, rfl, d11, df, h1⟩)
    | (go_at_call 110; refine Calls.mono (HI.out _ _ _ _ h1) ?_; rintro e w2 ⟨rfl, wv', its', o⟩))
  go_end0
  exact ⟨rfl, wv', its', o⟩

end Go.Proofs.YtckmppkdpnhodaaGreatDoor
