/-
  (*World).does over the whole world in memory, where the text is no command, or what is to go is not there. (*World).does over the whole world in memory, where the replica is full.
-/
import Derived.Test.YtckmppkdpnhodaaGreatDoorT12
import Derived.Deep.Cut
namespace Go.Proofs.YtckmppkdpnhodaaGreatDoor
set_option linter.unusedVariables false
set_option linter.unusedSimpArgs false
open Go.RowKit Go.Proofs

variable {R : World → Nat → Nat → Nat → List Cm → (Nat → Prop) → Prop}

attribute [local go_sem ↓] Go.wp_at_zero Go.wp_at_succ

set_option maxRecDepth 100000 in
set_option maxHeartbeats 2000000 in
theorem does_bad (hR : Local R) {w : World} {c : Nat → Nat} {L : Lay} {st : St} (h : Mem R w c L st) {k : Nat} (hk : k < st.n) (ids : List Nat) (hA : AskDoes R w c L st k ids) (s : ByteArray) (hs : s.size ≤ maxLen) (hr : readC s = none)
    (hD : ∀ w' c' L', Mem R w' c' L' (st.asked k ids) → Stp w c w' c' → Calls Tryz.prog 20 #[.pointer (some ⟨st.rbs[k]'(by rw [h.llen]; exact hk), 0, none⟩), .string s] w' fun e w'' => e = .returned (.int .i64 2) ∧ Below w'.heap.size w' w'') :
    Calls Tryz.prog 16 #[.pointer (some ⟨L.wb, 0, none⟩), .int .i64 (k : Int), .string s] w fun e w' => e = .returned (.bool true) ∧ ∃ c' L', L'.wb = L.wb ∧ Mem R w' c' L' (st.asked k ids) ∧ Stp w c w' c' := by
  have HA : Hid (AskDoes R w c L st k ids) := hA
  have HRD : Hid (∀ W, Calls Tryz.prog 39 #[.string s] W fun e w' => (∃ (x y : ByteArray) (z : Int), e = .returned (.tuple #[.agg #[.string x, .string y, .int .i64 z], .bool false])) ∧ Below W.heap.size W w') := fun W => read_bad s W hs hr
  have HD : Hid (∀ w' c' L', Mem R w' c' L' (st.asked k ids) → Stp w c w' c' → Calls Tryz.prog 20 #[.pointer (some ⟨st.rbs[k]'(by rw [h.llen]; exact hk), 0, none⟩), .string s] w' fun e w'' => e = .returned (.int .i64 2) ∧ Below w'.heap.size w' w'') := hD
  have hk5 : st.n ≤ 5 := h.npos.2
  generalize hrb : st.rbs[k]'(by rw [h.llen]; exact hk) = rb at *
  have HRB : Hid (st.rbs[k]'(by rw [h.llen]; exact hk) = rb) := hrb
  clear hA hD hrb hs hr
  generalize hwb : L.wb = wb at *
  have k0 : (0 : Int) ≤ (k : Int) := by omega
  have k1 : (k : Int) < (st.n : Int) := by omega
  unfold AskDoes at HA
  rw [hwb] at HA
  clear hwb
  go_enter Tryz.func16, Tryz.ntmps16
  go_wp2_with (first
    | (go_at_call 35; refine HA.out.mono ?_; rintro e w1 ⟨rfl, c1, L1, hL1, hm1, hst1⟩)
    | (go_at_call 39; refine (HRD.out _).mono ?_; rintro e w2 ⟨⟨x, y, z, rfl⟩, hb2⟩; have hm3 := (hm1.below hR hb2).below hR ((Below.refl _ w2).alloc (Nat.le_refl _) (.cells #[.string x, .string y, .int .i64 z] 85)); have hst3 := (hst1.trans (Stp.below hb2)).trans (Stp.below ((Below.refl _ w2).alloc (Nat.le_refl _) (.cells #[.string x, .string y, .int .i64 z] 85))); obtain ⟨lb, capl, kb, capk, u, r1, r2, r3, rl, rk, rn⟩ := hm3.reads hk; rw [hL1] at r1 r2 r3; replace rl := rl.trans (show some (Value.pointer (some ⟨_, 0, none⟩)) = some (.pointer (some ⟨rb, 0, none⟩)) by rw [← HRB.out]; rfl))
    | (go_at_call 20; refine (HD.out _ c1 L1 hm3 hst3).mono ?_; rintro e w4 ⟨rfl, hb4⟩))
  go_ret
  exact ⟨rfl, c1, L1, hL1, hm3.below hR hb4, hst3.trans (Stp.below hb4)⟩

/-- Is what the command is to take away not there? -/
def lacks (tr : List Dn) (ids : List Nat) (cm : Cm) : Bool :=
  (decide (cm.k = .listen) && decide (numberN tr ids cm.word = 0)) || (decide (cm.k = .finWait) && !hasB tr ids .established cm.word)

set_option maxRecDepth 100000 in
set_option maxHeartbeats 4000000 in
theorem does_unknown (hR : Local R) {w : World} {c : Nat → Nat} {L : Lay} {st : St} (h : Mem R w c L st) {k : Nat} (hk : k < st.n) (ids : List Nat) (hA : AskDoes R w c L st k ids) (s : ByteArray) (hs : s.size ≤ maxLen) (cm : Cm) (hr : readC s = some cm)
    (hids : ∀ y ∈ ids, y < st.tr.length) (hsm : Small st.tr) (hl : st.tr.length ≤ maxLen) (hil : ids.length ≤ 100000000) (hla : lacks st.tr ids cm = true)
    (hD : ∀ w' c' L', Mem R w' c' L' (st.asked k ids) → Stp w c w' c' → Calls Tryz.prog 20 #[.pointer (some ⟨st.rbs[k]'(by rw [h.llen]; exact hk), 0, none⟩), .string s] w' fun e w'' => e = .returned (.int .i64 3) ∧ Below w'.heap.size w' w'') :
    Calls Tryz.prog 16 #[.pointer (some ⟨L.wb, 0, none⟩), .int .i64 (k : Int), .string s] w fun e w' => e = .returned (.bool true) ∧ ∃ c' L', L'.wb = L.wb ∧ Mem R w' c' L' (st.asked k ids) ∧ Stp w c w' c' := by
  have HA : Hid (AskDoes R w c L st k ids) := hA
  have HRD : Hid (∀ W, Calls Tryz.prog 39 #[.string s] W fun e w' => e = .returned (.tuple #[.agg #[.string cm.k.bs, .string cm.word, .int .i64 (cm.count : Int)], .bool true]) ∧ Below W.heap.size W w') := fun W => read_some s W hs hr
  have HD : Hid (∀ w' c' L', Mem R w' c' L' (st.asked k ids) → Stp w c w' c' → Calls Tryz.prog 20 #[.pointer (some ⟨st.rbs[k]'(by rw [h.llen]; exact hk), 0, none⟩), .string s] w' fun e w'' => e = .returned (.int .i64 3) ∧ Below w'.heap.size w' w'') := hD
  have HNU : Hid (∀ W tv u, TraceAt W tv st.tr → NatsAt W u ids → Calls Tryz.prog 40 #[tv, u, .string cm.word] W fun e w' => e = .returned (.int .i64 (numberN st.tr ids cm.word : Int)) ∧ Below W.heap.size W w') :=
    fun W tv u hT hK => number_any tv u st.tr ids cm.word W hT hK hids hsm hl (by omega)
  have HHA : Hid (∀ W tv u, TraceAt W tv st.tr → NatsAt W u ids → Calls Tryz.prog 41 #[tv, u, .string ⟨#[97, 112, 112, 108, 121]⟩, .string cm.word] W fun e w' => e = .returned (.bool (hasB st.tr ids .established cm.word)) ∧ Below W.heap.size W w') :=
    fun W tv u hT hK => has_any tv u st.tr ids .established cm.word W hT hK hids hl (by omega)
  have hkx : k < st.xss.length := by rw [h.xlen]; exact hk
  have HX : Hid ((st.asked k ids).xss[k]'(by simp [St.asked]; exact hkx) = ids) := by simp [Hid, St.asked]
  have hk5 : st.n ≤ 5 := h.npos.2
  generalize hrb : st.rbs[k]'(by rw [h.llen]; exact hk) = rb at *
  have HRB : Hid (st.rbs[k]'(by rw [h.llen]; exact hk) = rb) := hrb
  have HLA : Hid (lacks st.tr ids cm = true) := hla
  clear hA hD hrb hs hr hids hsm hla
  generalize hwb : L.wb = wb at *
  have k0 : (0 : Int) ≤ (k : Int) := by omega
  have k1 : (k : Int) < (st.n : Int) := by omega
  unfold AskDoes at HA
  rw [hwb] at HA
  clear hwb
  obtain ⟨kd, word, cnt⟩ := cm
  simp only at HRD HNU HHA
  go_enter Tryz.func16, Tryz.ntmps16
  go_wp2_with (first
    | (go_at_call 35; refine HA.out.mono ?_; rintro e w1 ⟨rfl, c1, L1, hL1, hm1, hst1⟩)
    | (go_at_call 39; refine (HRD.out _).mono ?_; rintro e w2 ⟨rfl, hb2⟩; have hm3 := (hm1.below hR hb2).below hR ((Below.refl _ w2).alloc (Nat.le_refl _) (.cells #[.string kd.bs, .string word, .int .i64 (cnt : Int)] 85)); have hst3 := (hst1.trans (Stp.below hb2)).trans (Stp.below ((Below.refl _ w2).alloc (Nat.le_refl _) (.cells #[.string kd.bs, .string word, .int .i64 (cnt : Int)] 85))); obtain ⟨lb, capl, kb, capk, u, r1, r2, r3, rl, rk, rn⟩ := hm3.reads hk; rw [hL1] at r1 r2 r3; replace rl := rl.trans (show some (Value.pointer (some ⟨_, 0, none⟩)) = some (.pointer (some ⟨rb, 0, none⟩)) by rw [← HRB.out]; rfl))
    | (go_at_call 20; refine (HD.out _ c1 L1 hm3 hst3).mono ?_; rintro e w4 ⟨rfl, hb4⟩))
  have hm4 := hm3.below hR hb4
  have hst4 := hst3.trans (Stp.below hb4)
  have b2 := cell_below hb4 r2
  have b3 := cell_below hb4 r3
  have bk := cell_below hb4 rk
  have v0 : w4.cell? ⟨w2.heap.size, 0, none⟩ = some (.string kd.bs) := cell_below hb4 (by simp)
  have v1 : w4.cell? ⟨w2.heap.size, 1, none⟩ = some (.string word) := cell_below hb4 (by simp)
  have hT4 : TraceAt w4 L1.tv st.tr := hm4.trace.at
  have hN4 : NatsAt w4 u ids := by
    have := rn.below hb4
    rwa [HX.out] at this
  have hsn : (st.asked k ids).n = st.n := rfl
  rw [hsn] at *
  clear hsn r1 r2 r3 rl rk rn hm1 hst1 hm3 hst3 HRD HD HA
  have HM4 : Hid (Mem R w4 c1 L1 (st.asked k ids)) := hm4
  have HST : Hid (Stp w c w4 c1) := hst4
  have HL1 : Hid (L1.wb = wb) := hL1
  have HNW : Hid (Calls Tryz.prog 40 #[L1.tv, u, .string word] w4.drew fun e w' => e = .returned (.int .i64 (numberN st.tr ids word : Int)) ∧ Below w4.drew.heap.size w4.drew w') := HNU.out _ _ _ (hT4.below ((Below.refl _ w4).drew)) (hN4.below ((Below.refl _ w4).drew))
  have HHW : Hid (∀ W, Below w4.heap.size w4 W → Calls Tryz.prog 41 #[L1.tv, u, .string ⟨#[97, 112, 112, 108, 121]⟩, .string word] W fun e w' => e = .returned (.bool (hasB st.tr ids .established word)) ∧ Below W.heap.size W w') := fun W hW => HHA.out _ _ _ (hT4.below hW) (hN4.below hW)
  clear hm4 hst4 hL1 hT4 hN4 HNU HHA
  generalize L1.tv = tv at *
  have hnl := numberN_le st.tr ids word
  go_region_held3 (fun w' => w'.cell? ⟨wb, 2, none⟩ = some tv ∧ w'.cell? ⟨wb, 3, none⟩ = some (.slice (some ⟨kb, 0, none⟩) st.n capk) ∧ w'.cell? ⟨kb, k, none⟩ = some u ∧ w'.cell? ⟨w2.heap.size, 1, none⟩ = some (.string word))
    (first | exact ⟨b2, b3, bk, v1⟩ | exact ⟨cell_below hb5 b2, cell_below hb5 b3, cell_below hb5 bk, cell_below hb5 v1⟩)
    (first | (go_at_call 40; refine HNW.out.mono ?_; rintro e w5 ⟨rfl, hb5⟩))
  have hb45 : Below w4.heap.size w4 w5 := ((Below.refl _ w4).drew).trans hb5
  have d2 := cell_below hb45 b2
  have d3 := cell_below hb45 b3
  have dk := cell_below hb45 bk
  have x0 := cell_below hb45 v0
  have x1 := cell_below hb45 v1
  have HHV : Hid (Calls Tryz.prog 41 #[tv, u, .string ⟨#[97, 112, 112, 108, 121]⟩, .string word] w5.drew fun e w' => e = .returned (.bool (hasB st.tr ids .established word)) ∧ Below w5.drew.heap.size w5.drew w') := HHW.out _ hb45.drew
  go_wp2_with fail
  go_region_held3 (fun w' => w'.cell? ⟨wb, 2, none⟩ = some tv ∧ w'.cell? ⟨wb, 3, none⟩ = some (.slice (some ⟨kb, 0, none⟩) st.n capk) ∧ w'.cell? ⟨kb, k, none⟩ = some u ∧ w'.cell? ⟨w2.heap.size, 1, none⟩ = some (.string word))
    (first | exact ⟨d2, d3, dk, x1⟩ | exact ⟨cell_below hb6 d2, cell_below hb6 d3, cell_below hb6 dk, cell_below hb6 x1⟩)
    (first | (go_at_call 41; refine HHV.out.mono ?_; rintro e w6 ⟨rfl, hb6⟩))
  have hb56 : Below w5.heap.size w5 w6 := ((Below.refl _ w5).drew).trans hb6
  have hb46 : Below w4.heap.size w4 w6 := hb45.trans (hb56.mono hb45.size)
  have y0 := cell_below hb56 x0
  have hlk := HLA.out
  simp only [lacks, Bool.or_eq_true, Bool.and_eq_true, decide_eq_true_eq, Bool.not_eq_true'] at hlk
  generalize numberN st.tr ids word = nn at *
  generalize hasB st.tr ids .established word = hb at *
  rcases hlk with ⟨rfl, rfl⟩ | ⟨rfl, rfl⟩
  all_goals
    simp only [Kd.bs] at y0
    go_wp2
    go_ret
    exact ⟨rfl, c1, L1, HL1.out, HM4.out.below hR hb46, HST.out.trans (Stp.below hb46)⟩
end Go.Proofs.YtckmppkdpnhodaaGreatDoor

namespace Go.Proofs.YtckmppkdpnhodaaGreatDoor
set_option linter.unusedVariables false
set_option linter.unusedSimpArgs false
open Go.RowKit Go.Proofs

variable {R : World → Nat → Nat → Nat → List Cm → (Nat → Prop) → Prop}

attribute [local go_sem ↓] Go.wp_at_zero Go.wp_at_succ

theorem Mem.lists {w : World} {c : Nat → Nat} {L : Lay} {st : St} (h : Mem R w c L st) : ListsAt w (.slice (some ⟨L.kb, 0, none⟩) st.n L.capk) st.xss := by
  refine ⟨some ⟨L.kb, 0, none⟩, L.capk, by rw [h.xlen], fun i xs hx => ?_⟩
  obtain ⟨hi, rfl⟩ := List.getElem?_eq_some_iff.1 hx
  obtain ⟨u, hu, hrow, -⟩ := h.xrow i hi
  exact ⟨L.kb, u, rfl, by rw [cell_of_heap h.kbk]; exact hu, NatsAt.of_owns hrow⟩

theorem Mem.unknown {w : World} {c : Nat → Nat} {L : Lay} {st : St} (h : Mem R w c L st) (k : Nat) {a : Nat} (ha : a < st.xss.length) (hTl : st.tr.length ≤ 1000000000000) (hal : st.xss[a].length ≤ maxLen) :
    Calls Tryz.prog 42 #[.pointer (some ⟨L.wb, 0, none⟩), .int .i64 (k : Int), .int .i64 (a : Int)] w fun e w' => e = .returned (.int .i64 (unkN st.tr k st.xss[a] st.tr.length : Int)) ∧ w' = w :=
  unknown_any L.wb L.tv _ st.tr st.xss k a w (by rw [h.cell]; simp [Lay.C]) (by rw [h.cell]; simp [Lay.C]) h.trace.at h.lists hTl (by have := h.xlen; have := h.npos; omega) ha hal

theorem Mem.sinceCell {w : World} {c : Nat → Nat} {L : Lay} {st : St} (h : Mem R w c L st) {k : Nat} (hk : k < st.since.length) :
    ∃ g cap, w.cell? ⟨L.wb, 5, none⟩ = some (.slice (some ⟨g, 0, none⟩) st.n cap) ∧ w.cell? ⟨g, k, none⟩ = some (.int .i64 (st.since[k] : Int)) := by
  have hn := h.npos
  obtain ⟨g, cap, hv, -, -⟩ := h.srow.form (by omega)
  refine ⟨g, cap, by rw [h.cell, ← hv]; simp [Lay.C], ?_⟩
  have := h.srow.cells (g := g) (by rw [hv]; rfl) k (.int .i64 (st.since[k] : Int)) (by simp [ints, hk])
  rwa [Addr.add_mid, Nat.zero_add] at this

set_option maxRecDepth 100000 in
set_option maxHeartbeats 4000000 in
theorem does_full (hR : Local R) {w : World} {c : Nat → Nat} {L : Lay} {st : St} (h : Mem R w c L st) {k : Nat} (hk : k < st.n) (ids : List Nat) (hA : AskDoes R w c L st k ids) (s : ByteArray) (hs : s.size ≤ maxLen) (cm : Cm) (hr : readC s = some cm)
    (hids : ∀ y ∈ ids, y < st.tr.length) (hsm : Small st.tr) (hl : st.tr.length ≤ maxLen) (hil : ids.length ≤ 100000000) (hla : lacks st.tr ids cm = false)
    (Q : Nat → St → Prop) (idsO : Nat → List Nat) (hQ0 : ∀ w' c' L', Mem R w' c' L' (st.asked k ids) → Stp w c w' c' → Q 0 (st.asked k ids)) (hQn : ∀ i st', Q i st' → st'.n = st.n ∧ st'.tr = st.tr ∧ st'.since = st.since) (hQk : ∀ st', Q k st' → Q (k + 1) st')
    (hQa : ∀ i st', i ≠ k → i < st.n → Q i st' → Q (i + 1) (st'.asked i (idsO i)) ∧ (idsO i).length ≤ maxLen) (hAO : ∀ i w' c' L' st', i ≠ k → i < st.n → Mem R w' c' L' st' → Q i st' → Stp w c w' c' → AskDoes R w' c' L' st' i (idsO i))
    (hTl : st.tr.length ≤ 1000000000000) (h8 : 8 ≤ st.since[k]'(by rw [h.slen]; exact hk)) (h8l : ∀ x ∈ st.since, x ≤ 1000000000000)
    (hD : ∀ w' c' L', Mem R w' c' L' (st.asked k ids) → Stp w c w' c' → Calls Tryz.prog 20 #[.pointer (some ⟨st.rbs[k]'(by rw [h.llen]; exact hk), 0, none⟩), .string s] w' fun e w'' => e = .returned (.int .i64 4) ∧ Below w'.heap.size w' w'') :
    Calls Tryz.prog 16 #[.pointer (some ⟨L.wb, 0, none⟩), .int .i64 (k : Int), .string s] w fun e w' => e = .returned (.bool true) ∧ ∃ c' L' st', L'.wb = L.wb ∧ Mem R w' c' L' st' ∧ Q st.n st' ∧ Stp w c w' c' := by
  have HA : Hid (AskDoes R w c L st k ids) := hA
  have HRD : Hid (∀ W, Calls Tryz.prog 39 #[.string s] W fun e w' => e = .returned (.tuple #[.agg #[.string cm.k.bs, .string cm.word, .int .i64 (cm.count : Int)], .bool true]) ∧ Below W.heap.size W w') := fun W => read_some s W hs hr
  have HD : Hid (∀ w' c' L', Mem R w' c' L' (st.asked k ids) → Stp w c w' c' → Calls Tryz.prog 20 #[.pointer (some ⟨st.rbs[k]'(by rw [h.llen]; exact hk), 0, none⟩), .string s] w' fun e w'' => e = .returned (.int .i64 4) ∧ Below w'.heap.size w' w'') := hD
  have HNU : Hid (∀ W tv u, TraceAt W tv st.tr → NatsAt W u ids → Calls Tryz.prog 40 #[tv, u, .string cm.word] W fun e w' => e = .returned (.int .i64 (numberN st.tr ids cm.word : Int)) ∧ Below W.heap.size W w') :=
    fun W tv u hT hK => number_any tv u st.tr ids cm.word W hT hK hids hsm hl (by omega)
  have HHA : Hid (∀ W tv u, TraceAt W tv st.tr → NatsAt W u ids → Calls Tryz.prog 41 #[tv, u, .string ⟨#[97, 112, 112, 108, 121]⟩, .string cm.word] W fun e w' => e = .returned (.bool (hasB st.tr ids .established cm.word)) ∧ Below W.heap.size W w') :=
    fun W tv u hT hK => has_any tv u st.tr ids .established cm.word W hT hK hids hl (by omega)
  have hkx : k < st.xss.length := by rw [h.xlen]; exact hk
  have HX : Hid ((st.asked k ids).xss[k]'(by simp [St.asked]; exact hkx) = ids) := by simp [Hid, St.asked]
  have hk5 : st.n ≤ 5 := h.npos.2
  have HSL : Hid (st.since.length = st.n) := h.slen
  generalize hrb : st.rbs[k]'(by rw [h.llen]; exact hk) = rb at *
  have HRB : Hid (st.rbs[k]'(by rw [h.llen]; exact hk) = rb) := hrb
  have HLA : Hid (lacks st.tr ids cm = false) := hla
  have HQ0 : Hid _ := hQ0
  have HQN : Hid _ := hQn
  have HQK : Hid _ := hQk
  have HQA : Hid _ := hQa
  have HAO : Hid _ := hAO
  have H8 : Hid (8 ≤ st.since[k]'(by rw [h.slen]; exact hk)) := h8
  have H8L : Hid (∀ x ∈ st.since, x ≤ 1000000000000) := h8l
  clear hA hD hrb hs hr hids hsm hla hQ0 hQn hQk hQa hAO h8 h8l
  generalize hwb : L.wb = wb at *
  have k0 : (0 : Int) ≤ (k : Int) := by omega
  have k1 : (k : Int) < (st.n : Int) := by omega
  unfold AskDoes at HA
  rw [hwb] at HA
  clear hwb
  obtain ⟨kd, word, cnt⟩ := cm
  simp only at HRD HNU HHA
  go_enter Tryz.func16, Tryz.ntmps16
  go_wp2_with (first
    | (go_at_call 35; refine HA.out.mono ?_; rintro e w1 ⟨rfl, c1, L1, hL1, hm1, hst1⟩)
    | (go_at_call 39; refine (HRD.out _).mono ?_; rintro e w2 ⟨rfl, hb2⟩; have hm3 := (hm1.below hR hb2).below hR ((Below.refl _ w2).alloc (Nat.le_refl _) (.cells #[.string kd.bs, .string word, .int .i64 (cnt : Int)] 85)); have hst3 := (hst1.trans (Stp.below hb2)).trans (Stp.below ((Below.refl _ w2).alloc (Nat.le_refl _) (.cells #[.string kd.bs, .string word, .int .i64 (cnt : Int)] 85))); obtain ⟨lb, capl, kb, capk, u, r1, r2, r3, rl, rk, rn⟩ := hm3.reads hk; rw [hL1] at r1 r2 r3; replace rl := rl.trans (show some (Value.pointer (some ⟨_, 0, none⟩)) = some (.pointer (some ⟨rb, 0, none⟩)) by rw [← HRB.out]; rfl))
    | (go_at_call 20; refine (HD.out _ c1 L1 hm3 hst3).mono ?_; rintro e w4 ⟨rfl, hb4⟩))
  have hm4 := hm3.below hR hb4
  have hst4 := hst3.trans (Stp.below hb4)
  have b2 := cell_below hb4 r2
  have b3 := cell_below hb4 r3
  have bk := cell_below hb4 rk
  have v0 : w4.cell? ⟨w2.heap.size, 0, none⟩ = some (.string kd.bs) := cell_below hb4 (by simp)
  have v1 : w4.cell? ⟨w2.heap.size, 1, none⟩ = some (.string word) := cell_below hb4 (by simp)
  have hT4 : TraceAt w4 L1.tv st.tr := hm4.trace.at
  have hN4 : NatsAt w4 u ids := by
    have := rn.below hb4
    rwa [HX.out] at this
  have hsn : (st.asked k ids).n = st.n := rfl
  rw [hsn] at *
  clear hsn r1 r2 r3 rl rk rn hm1 hst1 hm3 hst3 HRD HD HA
  have HM4 : Hid (Mem R w4 c1 L1 (st.asked k ids)) := hm4
  have HST : Hid (Stp w c w4 c1) := hst4
  have HL1 : Hid (L1.wb = wb) := hL1
  have HNW : Hid (Calls Tryz.prog 40 #[L1.tv, u, .string word] w4.drew fun e w' => e = .returned (.int .i64 (numberN st.tr ids word : Int)) ∧ Below w4.drew.heap.size w4.drew w') := HNU.out _ _ _ (hT4.below ((Below.refl _ w4).drew)) (hN4.below ((Below.refl _ w4).drew))
  have HHW : Hid (∀ W, Below w4.heap.size w4 W → Calls Tryz.prog 41 #[L1.tv, u, .string ⟨#[97, 112, 112, 108, 121]⟩, .string word] W fun e w' => e = .returned (.bool (hasB st.tr ids .established word)) ∧ Below W.heap.size W w') := fun W hW => HHA.out _ _ _ (hT4.below hW) (hN4.below hW)
  clear hm4 hst4 hL1 hT4 hN4 HNU HHA
  generalize L1.tv = tv at *
  have hnl := numberN_le st.tr ids word
  go_region_held3 (fun w' => w'.cell? ⟨wb, 2, none⟩ = some tv ∧ w'.cell? ⟨wb, 3, none⟩ = some (.slice (some ⟨kb, 0, none⟩) st.n capk) ∧ w'.cell? ⟨kb, k, none⟩ = some u ∧ w'.cell? ⟨w2.heap.size, 1, none⟩ = some (.string word))
    (first | exact ⟨b2, b3, bk, v1⟩ | exact ⟨cell_below hb5 b2, cell_below hb5 b3, cell_below hb5 bk, cell_below hb5 v1⟩)
    (first | (go_at_call 40; refine HNW.out.mono ?_; rintro e w5 ⟨rfl, hb5⟩))
  have hb45 : Below w4.heap.size w4 w5 := ((Below.refl _ w4).drew).trans hb5
  have d2 := cell_below hb45 b2
  have d3 := cell_below hb45 b3
  have dk := cell_below hb45 bk
  have x0 := cell_below hb45 v0
  have x1 := cell_below hb45 v1
  have HHV : Hid (Calls Tryz.prog 41 #[tv, u, .string ⟨#[97, 112, 112, 108, 121]⟩, .string word] w5.drew fun e w' => e = .returned (.bool (hasB st.tr ids .established word)) ∧ Below w5.drew.heap.size w5.drew w') := HHW.out _ hb45.drew
  go_wp2_with fail
  go_region_held3 (fun w' => w'.cell? ⟨wb, 2, none⟩ = some tv ∧ w'.cell? ⟨wb, 3, none⟩ = some (.slice (some ⟨kb, 0, none⟩) st.n capk) ∧ w'.cell? ⟨kb, k, none⟩ = some u ∧ w'.cell? ⟨w2.heap.size, 1, none⟩ = some (.string word))
    (first | exact ⟨d2, d3, dk, x1⟩ | exact ⟨cell_below hb6 d2, cell_below hb6 d3, cell_below hb6 dk, cell_below hb6 x1⟩)
    (first | (go_at_call 41; refine HHV.out.mono ?_; rintro e w6 ⟨rfl, hb6⟩))
  have hb56 : Below w5.heap.size w5 w6 := ((Below.refl _ w5).drew).trans hb6
  have hb46 : Below w4.heap.size w4 w6 := hb45.trans (hb56.mono hb45.size)
  have y0 := cell_below hb56 x0
  have hlk := HLA.out
  simp only [lacks, Bool.or_eq_false_iff, Bool.and_eq_false_iff, decide_eq_false_iff_not, Bool.not_eq_false'] at hlk
  have HQ00 : Hid (Q 0 (st.asked k ids)) := HQ0.out _ _ _ HM4.out HST.out
  have hb46m := HM4.out.below hR hb46
  have hst6 := HST.out.trans (Stp.below (c := c1) hb46)
  generalize numberN st.tr ids word = nn at *
  generalize hasB st.tr ids .established word = hb at *
  have hlr : (kd.bs.toList == [114, 101, 109, 111, 118, 101]) = false ∨ ((nn : Int) == 0) = false := by
    rcases hlk.1 with h1 | h1
    · exact .inl (ne_remove h1)
    · exact .inr (by rw [beq_eq_false_iff_ne]; omega)
  have hlv : (kd.bs.toList == [114, 101, 118, 111, 107, 101]) = false ∨ hb = true := by
    rcases hlk.2 with h1 | h1
    · exact .inl (ne_revoke h1)
    · exact .inr h1
  clear hlk
  have HMM : Hid (Mem R w6 c1 L1 (st.asked k ids)) := hb46m
  have HSS : Hid (Stp w c w6 c1) := hst6
  clear hb46m hst6 b2 b3 bk v0 v1 d2 d3 dk x0 x1 HNW HHW HHV hb45 hb5 hb6 hb56 hb46 HM4 HST hb4 hb2
  generalize kd.bs = kv at *
  go_upto_region 10 with fail
  go_cut [85] from 70 (fun v wc => v = .bool false ∧ wc = w6)
  case first =>
    rcases hlr with hlr | hlr
    · rcases hlv with hlv | hlv
      · go_wp2_with fail
        all_goals go_meet
        all_goals first | (case rel => exact ⟨rfl, rfl⟩) | skip
      · subst hlv
        go_wp2_with fail
        all_goals go_meet
        all_goals first | (case rel => exact ⟨rfl, rfl⟩) | skip
    · rcases hlv with hlv | hlv
      · go_wp2_with fail
        all_goals go_meet
        all_goals first | (case rel => exact ⟨rfl, rfl⟩) | skip
      · subst hlv
        go_wp2_with fail
        all_goals go_meet
        all_goals first | (case rel => exact ⟨rfl, rfl⟩) | skip
  case rest =>
    obtain ⟨rfl, rfl⟩ := hcut
    clear hlr hlv y0
    go_wp2_with fail
    have hn5 : st.n ≤ 5 := hk5
    go_loopw [13] (fun v wr => ∃ (i : Nat) (c' : Nat → Nat) (L' : Lay) (st' : St), i ≤ st.n ∧ v = .int .i64 i ∧ Hid (Mem R wr c' L' st') ∧ L'.wb = wb ∧ Hid (Q i st') ∧ Hid (Stp w c wr c')) (fun v _ => st.n - (intOf v).toNat)
    case atStart => exact ⟨0, c1, L1, _, Nat.zero_le _, rfl, HMM.out, HL1.out, HQ00.out, HSS.out⟩
    case round =>
      obtain ⟨i, c', L', st', hi, rfl, hM, hL', hq, hS⟩ := hrel
      obtain ⟨hn', ht', hs'⟩ := HQN.out i st' hq.out
      have r0 : wr.cell? ⟨wb, 0, none⟩ = some (.int .i64 (st.n : Int)) := by rw [← hL', hM.out.cell, hn']; simp [Lay.C]
      by_cases hlt : i < st.n
      · by_cases hik : i = k
        · subst hik
          go_wp2_with fail
          go_roundw
          case rel =>
            have R1 : i + 1 ≤ st.n ∧ Value.int .i64 ((i : Int) + 1) = .int .i64 ((i + 1 : Nat) : Int) ∧ Hid (Mem R wr c' L' st') ∧ L'.wb = wb ∧ Hid (Q (i + 1) st') ∧ Hid (Stp w c wr c') := ⟨by omega, by go_num, hM, hL', HQK.out st' hq.out, hS⟩
            first
              | exact ⟨i + 1, c', L', st', R1⟩
              | ((repeat apply Exists.intro); exact ⟨⟨i + 1, c', L', st', R1⟩, rfl⟩)
          case measure => simp [intOf]; omega
        · obtain ⟨hq1, hol⟩ := HQA.out i st' hik hlt hq.out
          have HASK : Hid (AskDoes R wr c' L' st' i (idsO i)) := HAO.out i wr c' L' st' hik hlt hM.out hq.out hS.out
          unfold AskDoes at HASK
          rw [hL'] at HASK
          have hix : i < (st'.asked i (idsO i)).xss.length := by simp [St.asked, hM.out.xlen, hn']; exact hlt
          have hxi : (st'.asked i (idsO i)).xss[i] = idsO i := by simp [St.asked]
          have HUN : Hid (∀ W c7 L7, Mem R W c7 L7 (st'.asked i (idsO i)) → L7.wb = wb → ∃ un : Nat, un ≤ 1000000000000 ∧ Calls Tryz.prog 42 #[.pointer (some ⟨wb, 0, none⟩), .int .i64 (k : Int), .int .i64 (i : Int)] W fun e w' => e = .returned (.int .i64 (un : Int)) ∧ w' = W) := fun W c7 L7 hm7 hL7 => by
            have htl : (st'.asked i (idsO i)).tr.length ≤ 1000000000000 := by show st'.tr.length ≤ _; rw [ht']; exact hTl
            have := hm7.unknown k hix htl (by rw [hxi]; exact hol)
            rw [hL7] at this
            exact ⟨_, Nat.le_trans (unkN_le _ _ _ _) htl, this⟩
          have bik : ((i : Int) == (k : Int)) = false := by rw [beq_eq_false_iff_ne]; omega
          have HQ1 : Hid (Q (i + 1) (st'.asked i (idsO i))) := hq1
          clear hq hM hix hxi hq1
          go_wp2_with (first
            | (go_at_call 35; refine HASK.out.mono ?_; rintro e w7 ⟨rfl, c7, L7, hL7, hm7, hs7⟩; obtain ⟨un, hun, HU⟩ := HUN.out w7 c7 L7 hm7 hL7)
            | (go_at_call 42; refine HU.mono ?_; rintro e w8 ⟨rfl, hw8⟩; have hw8' := hw8.symm; clear hw8; subst hw8'))
          all_goals
            go_roundw
            case rel =>
              have R1 : i + 1 ≤ st.n ∧ Value.int .i64 ((i : Int) + 1) = .int .i64 ((i + 1 : Nat) : Int) ∧ Hid (Mem R w7 c7 L7 (st'.asked i (idsO i))) ∧ L7.wb = wb ∧ Hid (Q (i + 1) (st'.asked i (idsO i))) ∧ Hid (Stp w c w7 c7) := ⟨by omega, by go_num, hm7, hL7, HQ1, hS.out.trans hs7⟩
              first
                | exact ⟨i + 1, c7, L7, _, R1⟩
                | ((repeat apply Exists.intro); exact ⟨⟨i + 1, c7, L7, _, R1⟩, rfl⟩)
            case measure => simp [intOf]; omega
      · obtain rfl : i = st.n := by omega
        have hks : k < st'.since.length := by rw [hs', HSL.out]; exact hk
        obtain ⟨gs, caps, r5, rs⟩ := hM.out.sinceCell hks
        rw [hL', hn'] at r5
        have h8 : 8 ≤ st'.since[k] := by have := H8.out; simp only [hs']; exact this
        have h8l : st'.since[k] ≤ 1000000000000 := by have := H8L.out; rw [← hs'] at this; exact this _ (List.getElem_mem hks)
        generalize st'.since[k] = sk at *
        go_wp2_with fail
        go_ret
        exact ⟨ret_bool (by simp; omega), c', L', st', hL', hM.out, hq.out, hS.out⟩

end Go.Proofs.YtckmppkdpnhodaaGreatDoor
