/- Own texts, packed: Q23. -/
import Derived.Test.YtboofamenpcnhaaGreatDoorV12
import Derived.Test.YtboofamenpcnhaaGreatDoorV00
namespace Go.Proofs.YtboofamenpcnhaaGreatDoor
set_option maxRecDepth 100000
open Go.RowKit
set_option linter.unusedVariables false
set_option linter.unusedSimpArgs false
def whole (n : Nat) : Nat := n - n % 64
def lastB (ps : List Int) : List Int := ps.drop (whole ps.length) ++ [128] ++ List.replicate (pads (ps.drop (whole ps.length)).length) 0 ++ lenB ps.length 8
/-- The sum of some bytes. -/
def shaE (f : Eight) (ks : List Int) (ps : List Int) : Eight := stirN ks (stirN ks f (ps.take (whole ps.length)) ((ps.take (whole ps.length)).length / 64)) (lastB ps) ((lastB ps).length / 64)
theorem reads_take {w : World} {g o cap k : Nat} {xs : List Int} (hc : xs.length ≤ cap) (hk : k ≤ xs.length)
    (hcell : ∀ i, i < xs.length → w.cell? ⟨g, o + i, none⟩ = some (.int .u8 (xs.getD i 0))) : Reads w (.slice (some ⟨g, o, none⟩) k cap) (xs.take k) := by
  refine .inr ⟨g, o, cap, by simp [Nat.min_eq_left hk], by simp only [List.length_take]; omega, fun i hi => ?_⟩
  simp only [List.length_take] at hi
  rw [hcell i (by omega)]
  have : i < k := by omega
  simp [List.getD, this]
theorem exec_load_mid {P : Program} (ev : Operand → Value) (op : Oper) (ty : TypeId) (x : Operand) (ho : op.op = .load ty x) (b o : Nat) (hx : ev x = .pointer (some ⟨b, o, none⟩)) (cs : List Value) (d : TypeDesc) (w : World) (hc : w.rangeAt b o cs)
    (hu : P.underlying ty = some d) (hd : d.isRow = true) (hi : (P.info? ty).map (·.size) = some cs.length) : (execOp ev op).run P w = .ok (.value (.agg cs.toArray)) w := by
  unfold execOp
  simp only [ho, hx, Instr.loadAt, Instr.sureAddr, Sem.run_bind, Sem.run_pure, Result.andThen_ok, run_loadVar_mid w b o ty cs d hc hu hd hi]
theorem there_zero8 (w : World) : (w.alloc (.cells #[.int .u32 0, .int .u32 0, .int .u32 0, .int .u32 0, .int .u32 0, .int .u32 0, .int .u32 0, .int .u32 0] 114)).there w.heap.size 0 8 := fun j hj => by
  have h2 := heap_alloc_new w (.cells #[.int .u32 0, .int .u32 0, .int .u32 0, .int .u32 0, .int .u32 0, .int .u32 0, .int .u32 0, .int .u32 0] 114)
  refine ⟨?_, frozen_of_row _ _ _ _ 114 h2⟩
  rw [Nat.zero_add, cell_of_row _ _ _ _ 114 (0, 0) h2]; simp; omega
set_option maxHeartbeats 2000000 in
set_option maxRecDepth 100000 in
theorem of_some (g o l c : Nat) (ps ks : List Int) (f : Eight) (w : World) (hL : ps.length = l) (hc : l ≤ c) (hcell : ∀ i, i < ps.length → w.cell? ⟨g, o + i, none⟩ = some (.int .u8 (ps.getD i 0)))
    (hl : l ≤ 60000000000000) (hr : Roots w ks) (hf : w.rangeAt 0 0 f.vals) :
    Calls Tryz.prog 28 #[.slice (some ⟨g, o, none⟩) l c] w (KeyPost w (keyB (shaE f ks ps) 8)) := by
  obtain ⟨m, hm⟩ : ∃ m, whole l = m := ⟨_, rfl⟩
  have hm2 : m = l - l % 64 := by rw [← hm]; rfl
  have hml : m ≤ l := by omega
  have hmi : (l : Int) - (l : Int) % 64 = (m : Int) := by omega
  have hmc : (m : Int) ≤ (c : Int) := by omega
  have hv1 : Reads w (.slice (some ⟨g, o, none⟩) m c) (ps.take (whole ps.length)) := by rw [hL, hm]; exact reads_take (by omega) (by omega) hcell
  have hv2 : Reads w (.slice (if c = m then some ⟨g, o, none⟩ else some ⟨g, o + m, none⟩) (l - m) (c - m)) (ps.drop (whole ps.length)) := by
    rw [hL, hm, ← hL]
    split
    · exact reads_drop (by omega) (by omega) (fun h => by omega) hcell
    · exact reads_drop (by omega) (by omega) (fun h => rfl) hcell
  have htl : (ps.take (whole ps.length)).length ≤ 60000000000000 := by simp only [List.length_take]; omega
  have hdl : (ps.drop (whole ps.length)).length ≤ 60000000000000 := by simp only [List.length_drop]; omega
  have hll : (ps.drop (whole ps.length) ++ [128] ++ List.replicate (pads (ps.drop (whole ps.length)).length) 0 ++ lenB l 8).length ≤ 60000000000200 := by
    have : pads (ps.drop (whole ps.length)).length < 64 := by unfold pads; omega
    simp only [List.length_append, List.length_replicate, List.length_cons, List.length_nil, lenB, List.length_map, List.length_range]; omega
  have HTL := Lib.hid htl
  have HDL := Lib.hid hdl
  have HLL := Lib.hid hll
  have HV1 := Lib.hid hv1
  have HV2 := Lib.hid hv2
  have HL := Lib.hid hL
  have HR := Lib.hid hr
  have HF := Lib.hid hf
  clear hL hcell hr hf hm hm2 hv1 hv2 htl hdl hll
  go_enter Tryz.func28, Tryz.ntmps28
  go_wp2_with fail
  generalize hW : World.alloc w _ = W1
  have hB0 : BytesAt W1 w.heap.size 32 (List.replicate 32 0) := by
    subst hW; exact heap_alloc_new w (.cells ((List.replicate 32 (0 : Int)).map (Value.int .u8)).toArray 32)
  have t0 : Turn (fun _ => False) w W1 := by subst hW; exact (Turn.refl _ w).alloc _
  have hs1 : W1.heap.size = w.heap.size + 1 := by subst hW; simp
  have hF1 : W1.drew.rangeAt 0 0 f.vals := rangeAt_turn HF.out t0.drew id
  have HS1 := Lib.hid hs1
  clear hW hs1
  refine wp_region_held_drew (S := fun w' => w'.rangeAt 0 0 f.vals) (by kernel_rfl) hF1 (fun hHeld => ?_)
  refine wpAnyH_take (i := 0) (v := .agg f.vals.toArray) rfl (by kernel_rfl) (by kernel_rfl) (by kernel_rfl) (fun _ _ _ h => h) (Or.inl ⟨by rfl, ?ya0⟩) (by assumption) ?ra0
  case ya0 => (intro w hSw; exact exec_load_mid _ _ 114 _ rfl 0 0 rfl f.vals _ _ hSw Tryz.underlying114 rfl size41)
  case ra0 =>
  try simp only [Act.put, zq4, zq5, zq6, zq1, zq2, zq3]
  refine wpAnyH_take (i := 1) (v := .slice (some ⟨g, o, none⟩) l c) rfl (by kernel_rfl) (by kernel_rfl) (by kernel_rfl) (fun _ _ _ h => h) (Or.inl ⟨by rfl, ?ya1⟩) (by assumption) ?ra1
  case ya1 => (intro w hSw; (try dsimp only at hSw); (try simp only [zq1, zq2, zq3]); go_simp; try with_reducible rfl)
  case ra1 =>
  try simp only [Act.put, zq4, zq5, zq6, zq1, zq2, zq3]
  refine wpAnyH_take (i := 2) (v := .int .i64 (m : Int)) rfl (by kernel_rfl) (by kernel_rfl) (by kernel_rfl) (fun _ _ _ h => h) (Or.inl ⟨by rfl, ?ya2⟩) (by assumption) ?ra2
  case ya2 => (intro w hSw; (try dsimp only at hSw); (try simp only [zq1, zq2, zq3]); go_simp; try with_reducible rfl)
  case ra2 =>
  try simp only [Act.put, zq4, zq5, zq6, zq1, zq2, zq3]
  refine wpAnyH_take (i := 3) (v := .slice (some ⟨g, o, none⟩) m c) rfl (by kernel_rfl) (by kernel_rfl) (by kernel_rfl) (fun _ _ _ h => h) (Or.inl ⟨by rfl, ?ya3⟩) (by assumption) ?ra3
  case ya3 => (intro w hSw; (try dsimp only at hSw); (try simp only [zq1, zq2, zq3]); go_simp; try with_reducible rfl)
  case ra3 =>
  try simp only [Act.put, zq4, zq5, zq6, zq1, zq2, zq3]
  have t1 := t0.drew
  have hR1 := HR.out.turn t1
  have t1' : Turn (fun _ => False) W1 W1.drew := (Turn.refl _ W1).drew
  generalize W1.drew = w1 at t1 hR1 hF1 hHeld t1' ⊢
  have hv1 := HV1.out.turn t1 (fun _ _ => id)
  refine wpAnyH_ready (rs := [4, 5]) (by kernel_rfl) (by simp) ?_
  refine AllReadyH.cons rfl (fun K hK => ?_) (AllReadyH.cons rfl (fun K hK => ?_) AllReadyH.nil)
  · go_simp
    refine (all_any f _ (ps.take (whole ps.length)) ks _ hv1 (by have := HTL.out; omega) hR1).mono ?_
    rintro r w2 ⟨rfl, t2⟩
    generalize hs1 : stirN ks f (ps.take (whole ps.length)) ((ps.take (whole ps.length)).length / 64) = s1
    have HSE := Lib.hid hs1
    clear hs1
    have T2 := t1.trans t2 (fun _ _ => id)
    have T2' := t1'.trans t2 (fun _ _ => id)
    refine hK.out _ _ (rangeAt_turn HF.out T2 id) (fun _ => ?_)
    clear hK K
    try simp only [Act.put, zq4, zq5, zq6, zq1, zq2, zq3]
    refine wpAnyH_ready (rs := [5]) (by kernel_rfl) (by simp) ?_
    refine AllReadyH.cons rfl (fun K hK => ?_) AllReadyH.nil
    go_simp
    have Th := there_zero8 w2
    have T3 := T2.alloc (.cells #[.int .u32 0, .int .u32 0, .int .u32 0, .int .u32 0, .int .u32 0, .int .u32 0, .int .u32 0, .int .u32 0] 114)
    have T3' := T2'.alloc (.cells #[.int .u32 0, .int .u32 0, .int .u32 0, .int .u32 0, .int .u32 0, .int .u32 0, .int .u32 0, .int .u32 0] 114)
    refine hK.out _ _ (rangeAt_turn HF.out T3 id) (fun _ => ?_)
    clear hK K
    try simp only [Act.put, zq4, zq5, zq6, zq1, zq2, zq3]
    have hBB : W1.heap.size ≤ w2.heap.size := T2'.size
    have HBw := Lib.hid (show ¬ w2.heap.size = w.heap.size by have := HS1.out; omega)
    generalize w2.alloc _ = w3 at Th T3 T3' ⊢
    have HB := Lib.hid (show w.heap.size ≤ w2.heap.size ∧ W1.heap.size ≤ w2.heap.size from ⟨T2.size, hBB⟩)
    clear t2 T2 T2' hBB
    generalize w2.heap.size = B at Th HB HBw ⊢
    refine wpAnyH_ready (rs := [6]) (by kernel_rfl) (by simp) ?_
    refine AllReadyH.cons rfl (fun K hK => ?_) AllReadyH.nil
    rw [if_pos (by rfl)]
    refine wp_store_mid 114 _ _ rfl B 0 s1.vals.toArray rfl rfl Th size41 (vals_one _) ?_
    have t4 := turn_setCells B s1.vals 0 w3
    have R4 := World.rangeAt_setCells_same w3 B 0 s1.vals Th
    have T4 := T3.trans t4 (fun q hq h => by have := HB.out; omega)
    have T4' := T3'.trans t4 (fun q hq h => by have := HB.out; omega)
    have hF4 := rangeAt_turn HF.out T4 id
    refine hK.out _ _ hF4 (fun _ => wpAnyH_done (by kernel_rfl) ?_ _)
    clear hK K
    have hB4 := hB0.turn T4' id
    change Exit.then _ _ _ _ (w3.setCells B 0 s1.vals)
    generalize w3.setCells B 0 s1.vals = w4 at R4 T4 T4' hB4 hF4 ⊢
    clear t4 Th T3 T3' hF4 hHeld hF1 hv1 hR1 t1 t1'
    go_wp2_with fail
    have hR4 : w4.drew.rangeAt B 0 s1.vals := rangeAt_turn R4 (Turn.refl (fun _ => False) w4).drew id
    refine wp_region_held_drew (S := fun w' => w'.rangeAt B 0 s1.vals) (by kernel_rfl) hR4 (fun hHeld => ?_)
    refine wpAnyH_take (i := 0) (v := .agg s1.vals.toArray) rfl (by kernel_rfl) (by kernel_rfl) (by kernel_rfl) (fun _ _ _ h => h) (Or.inl ⟨by rfl, ?yb0⟩) (by assumption) ?rb0
    case yb0 => (intro w hSw; exact exec_load_mid _ _ 114 _ rfl B 0 rfl s1.vals _ _ hSw Tryz.underlying114 rfl size41)
    case rb0 =>
    try simp only [Act.put, zq4, zq5, zq6, zq1, zq2, zq3]
    refine wpAnyH_take (i := 1) (v := .slice (some ⟨g, o, none⟩) l c) rfl (by kernel_rfl) (by kernel_rfl) (by kernel_rfl) (fun _ _ _ h => h) (Or.inl ⟨by rfl, ?yb1⟩) (by assumption) ?rb1
    case yb1 => (intro w hSw; (try dsimp only at hSw); (try simp only [zq1, zq2, zq3]); go_simp; try with_reducible rfl)
    case rb1 =>
    try simp only [Act.put, zq4, zq5, zq6, zq1, zq2, zq3]
    refine wpAnyH_take (i := 2) (v := .int .i64 (m : Int)) rfl (by kernel_rfl) (by kernel_rfl) (by kernel_rfl) (fun _ _ _ h => h) (Or.inl ⟨by rfl, ?yb2⟩) (by assumption) ?rb2
    case yb2 => (intro w hSw; (try dsimp only at hSw); (try simp only [zq1, zq2, zq3]); go_simp; try with_reducible rfl)
    case rb2 =>
    try simp only [Act.put, zq4, zq5, zq6, zq1, zq2, zq3]
    refine wpAnyH_take (i := 3) (v := .slice (if c = m then some ⟨g, o, none⟩ else some ⟨g, o + m, none⟩) (l - m) (c - m)) rfl (by kernel_rfl) (by kernel_rfl) (by kernel_rfl) (fun _ _ _ h => h) (Or.inl ⟨by rfl, ?yb3⟩) (by assumption) ?rb3
    case yb3 => (intro w hSw; (try dsimp only at hSw); (try simp only [zq1, zq2, zq3]); go_simp; try with_reducible rfl)
    case rb3 =>
    try simp only [Act.put, zq4, zq5, zq6, zq1, zq2, zq3]
    refine wpAnyH_take (i := 4) (v := .slice (some ⟨g, o, none⟩) l c) rfl (by kernel_rfl) (by kernel_rfl) (by kernel_rfl) (fun _ _ _ h => h) (Or.inl ⟨by rfl, ?yb4⟩) (by assumption) ?rb4
    case yb4 => (intro w hSw; (try dsimp only at hSw); (try simp only [zq1, zq2, zq3]); go_simp; try with_reducible rfl)
    case rb4 =>
    try simp only [Act.put, zq4, zq5, zq6, zq1, zq2, zq3]
    refine wpAnyH_take (i := 5) (v := .int .i64 (l : Int)) rfl (by kernel_rfl) (by kernel_rfl) (by kernel_rfl) (fun _ _ _ h => h) (Or.inl ⟨by rfl, ?yb5⟩) (by assumption) ?rb5
    case yb5 => (intro w hSw; (try dsimp only at hSw); (try simp only [zq1, zq2, zq3]); go_simp; try with_reducible rfl)
    case rb5 =>
    try simp only [Act.put, zq4, zq5, zq6, zq1, zq2, zq3]
    have T5 := T4.drew
    have hB5 := hB4.turn (Turn.refl (fun _ => False) w4).drew id
    generalize w4.drew = w5 at T5 hB5 hR4 hHeld ⊢
    have hv2 := HV2.out.turn T5 (fun _ _ => id)
    refine wpAnyH_ready (rs := [6]) (by kernel_rfl) (by simp) ?_
    refine AllReadyH.cons rfl (fun K hK => ?_) AllReadyH.nil
    go_simp
    refine (last_anyS _ (ps.drop (whole ps.length)) l _ (by have := HDL.out; omega) (by omega) (.inl hv2)).mono ?_
    rintro r w6 ⟨v6, rfl, ho6, t6⟩
    have T6 := T5.trans t6 (fun _ _ => id)
    have hB6 := hB5.turn t6 id
    obtain ⟨lb, hlb⟩ : ∃ lb, (ps.drop (whole ps.length) ++ [128] ++ List.replicate (pads (ps.drop (whole ps.length)).length) 0 ++ lenB l 8) = lb := ⟨_, rfl⟩
    rw [hlb] at ho6
    have HLB := Lib.hid hlb
    have hr6 := Reads.of_owns ho6
    clear hlb
    have hrr := HR.out.turn T6
    have hS6 := rangeAt_turn hHeld t6 id
    refine hK.out _ _ hS6 (fun _ => ?_)
    clear hK K
    try simp only [Act.put, zq4, zq5, zq6, zq1, zq2, zq3]
    refine wpAnyH_ready (rs := [7]) (by kernel_rfl) (by simp) ?_
    refine AllReadyH.cons rfl (fun K hK => ?_) AllReadyH.nil
    go_simp
    refine (all_any s1 _ _ ks _ hr6 (by rw [← HLB.out]; have := HLL.out; omega) hrr).mono ?_
    rintro r w7 ⟨rfl, t7⟩
    generalize hs2 : stirN ks s1 lb (lb.length / 64) = s2
    have HS2 := Lib.hid hs2
    clear hs2
    have T7 := T6.trans t7 (fun _ _ => id)
    have hB7 := hB6.turn t7 id
    have hS7 := rangeAt_turn hS6 t7 id
    refine hK.out _ _ hS7 (fun _ => ?_)
    clear hK K
    try simp only [Act.put, zq4, zq5, zq6, zq1, zq2, zq3]
    refine wpAnyH_ready (rs := [8]) (by kernel_rfl) (by simp) ?_
    refine AllReadyH.cons rfl (fun K hK => ?_) AllReadyH.nil
    go_simp
    refine (key_any _ _).mono ?_
    rintro r w8 ⟨rfl, t8⟩
    have T8 := T7.trans t8 (fun _ _ => id)
    have hB8 := hB7.turn t8 id
    have hS8 := rangeAt_turn hS7 t8 id
    refine hK.out _ _ hS8 (fun _ => ?_)
    clear hK K
    try simp only [Act.put, zq4, zq5, zq6, zq1, zq2, zq3]
    have hkk : keyB s2 8 = keyB (shaE f ks ps) 8 := by rw [← HS2.out, ← HLB.out, ← HSE.out]; unfold shaE lastB; rw [HL.out]
    rw [hkk]
    have hkl := keyB_len (shaE f ks ps) 8
    generalize hkb : keyB (shaE f ks ps) 8 = kb at hkl ⊢
    have HKB := Lib.hid hkb
    clear hkk hkb
    have hth : w8.there w.heap.size 0 (kb.map (Value.int .u8)).toArray.size := by
      have := hB8.there
      simpa [hkl] using this
    have hi25 : (Tryz.prog.info? 32).map (·.size) = some (kb.map (Value.int .u8)).toArray.size := by rw [size25]; simp [hkl]
    have h1c : (kb.map (Value.int .u8)).toArray.all (·.oneCell') = true := all_oneCell_toArray (ints_oneCell _ _)
    refine wpAnyH_ready (rs := [9]) (by kernel_rfl) (by simp) ?_
    refine AllReadyH.cons rfl (fun K hK => ?_) AllReadyH.nil
    rw [if_pos (by rfl)]
    refine wp_store_mid 32 _ _ rfl w.heap.size 0 (kb.map (Value.int .u8)).toArray rfl rfl hth hi25 h1c ?_
    have hrg := World.rangeAt_setCells_same w8 w.heap.size 0 (kb.map (Value.int .u8)) (by simpa using hth)
    have t9 := turn_setCells w.heap.size (kb.map (Value.int .u8)) 0 w8
    have hS9 := rangeAt_turn hS8 t9 (by have := HBw.out; omega)
    have T9 := T8.trans t9 (fun q hq h => by omega)
    refine hK.out _ _ hS9 (fun _ => wpAnyH_done (by kernel_rfl) ?_ _)
    clear hK K
    change Exit.then _ _ _ _ (w8.setCells w.heap.size 0 (kb.map (Value.int .u8)))
    generalize w8.setCells w.heap.size 0 (kb.map (Value.int .u8)) = w9 at hrg t9 hS9 T9 ⊢
    clear t9 hS9 hS8 hth hB8 hB7 hB6 hB5 hB4 hr6 hrr
    go_wp2_with fail
    all_goals exact bodyPost_ret (v := .agg (kb.map (Value.int .u8)).toArray) (results_cell_mid Tryz.results28 _ _ w.heap.size _ _ rfl hrg Tryz.underlying32 rfl (by simpa using hi25)) rfl ⟨by rw [HKB.out], T9⟩
  · go_simp
    have Th := there_zero8 w1
    have T2 := t1.alloc (.cells #[.int .u32 0, .int .u32 0, .int .u32 0, .int .u32 0, .int .u32 0, .int .u32 0, .int .u32 0, .int .u32 0] 114)
    have T2' := t1'.alloc (.cells #[.int .u32 0, .int .u32 0, .int .u32 0, .int .u32 0, .int .u32 0, .int .u32 0, .int .u32 0, .int .u32 0] 114)
    refine hK.out _ _ (rangeAt_turn HF.out T2 id) (fun _ => ?_)
    clear hK K
    try simp only [Act.put, zq4, zq5, zq6, zq1, zq2, zq3]
    have HBw := Lib.hid (show ¬ w1.heap.size = w.heap.size by have := HS1.out; have := t1'.size; omega)
    have HB := Lib.hid (show w.heap.size ≤ w1.heap.size ∧ W1.heap.size ≤ w1.heap.size from ⟨t1.size, t1'.size⟩)
    generalize w1.alloc _ = w2 at Th T2 T2' ⊢
    generalize w1.heap.size = B at Th HB HBw ⊢
    refine wpAnyH_ready (rs := [4]) (by kernel_rfl) (by simp) ?_
    refine AllReadyH.cons rfl (fun K hK => ?_) AllReadyH.nil
    go_simp
    refine (all_any f _ (ps.take (whole ps.length)) ks _ (HV1.out.turn T2 (fun _ _ => id)) (by have := HTL.out; omega) (HR.out.turn T2)).mono ?_
    rintro r w3 ⟨rfl, t3⟩
    generalize hs1 : stirN ks f (ps.take (whole ps.length)) ((ps.take (whole ps.length)).length / 64) = s1
    have HSE := Lib.hid hs1
    clear hs1
    have T3 := T2.trans t3 (fun _ _ => id)
    have T3' := T2'.trans t3 (fun _ _ => id)
    replace Th := there_turn Th t3 id
    refine hK.out _ _ (rangeAt_turn HF.out T3 id) (fun _ => ?_)
    clear hK K t3 T2 T2'
    try simp only [Act.put, zq4, zq5, zq6, zq1, zq2, zq3]
    refine wpAnyH_ready (rs := [6]) (by kernel_rfl) (by simp) ?_
    refine AllReadyH.cons rfl (fun K hK => ?_) AllReadyH.nil
    rw [if_pos (by rfl)]
    refine wp_store_mid 114 _ _ rfl B 0 s1.vals.toArray rfl rfl Th size41 (vals_one _) ?_
    have t4 := turn_setCells B s1.vals 0 w3
    have R4 := World.rangeAt_setCells_same w3 B 0 s1.vals Th
    have T4 := T3.trans t4 (fun q hq h => by have := HB.out; omega)
    have T4' := T3'.trans t4 (fun q hq h => by have := HB.out; omega)
    have hF4 := rangeAt_turn HF.out T4 id
    refine hK.out _ _ hF4 (fun _ => wpAnyH_done (by kernel_rfl) ?_ _)
    clear hK K
    have hB4 := hB0.turn T4' id
    change Exit.then _ _ _ _ (w3.setCells B 0 s1.vals)
    generalize w3.setCells B 0 s1.vals = w4 at R4 T4 T4' hB4 hF4 ⊢
    clear t4 Th T3 T3' hF4 hHeld hF1 hv1 hR1 t1 t1'
    go_wp2_with fail
    have hR4 : w4.drew.rangeAt B 0 s1.vals := rangeAt_turn R4 (Turn.refl (fun _ => False) w4).drew id
    refine wp_region_held_drew (S := fun w' => w'.rangeAt B 0 s1.vals) (by kernel_rfl) hR4 (fun hHeld => ?_)
    refine wpAnyH_take (i := 0) (v := .agg s1.vals.toArray) rfl (by kernel_rfl) (by kernel_rfl) (by kernel_rfl) (fun _ _ _ h => h) (Or.inl ⟨by rfl, ?yb0⟩) (by assumption) ?rb0
    case yb0 => (intro w hSw; exact exec_load_mid _ _ 114 _ rfl B 0 rfl s1.vals _ _ hSw Tryz.underlying114 rfl size41)
    case rb0 =>
    try simp only [Act.put, zq4, zq5, zq6, zq1, zq2, zq3]
    refine wpAnyH_take (i := 1) (v := .slice (some ⟨g, o, none⟩) l c) rfl (by kernel_rfl) (by kernel_rfl) (by kernel_rfl) (fun _ _ _ h => h) (Or.inl ⟨by rfl, ?yb1⟩) (by assumption) ?rb1
    case yb1 => (intro w hSw; (try dsimp only at hSw); (try simp only [zq1, zq2, zq3]); go_simp; try with_reducible rfl)
    case rb1 =>
    try simp only [Act.put, zq4, zq5, zq6, zq1, zq2, zq3]
    refine wpAnyH_take (i := 2) (v := .int .i64 (m : Int)) rfl (by kernel_rfl) (by kernel_rfl) (by kernel_rfl) (fun _ _ _ h => h) (Or.inl ⟨by rfl, ?yb2⟩) (by assumption) ?rb2
    case yb2 => (intro w hSw; (try dsimp only at hSw); (try simp only [zq1, zq2, zq3]); go_simp; try with_reducible rfl)
    case rb2 =>
    try simp only [Act.put, zq4, zq5, zq6, zq1, zq2, zq3]
    refine wpAnyH_take (i := 3) (v := .slice (if c = m then some ⟨g, o, none⟩ else some ⟨g, o + m, none⟩) (l - m) (c - m)) rfl (by kernel_rfl) (by kernel_rfl) (by kernel_rfl) (fun _ _ _ h => h) (Or.inl ⟨by rfl, ?yb3⟩) (by assumption) ?rb3
    case yb3 => (intro w hSw; (try dsimp only at hSw); (try simp only [zq1, zq2, zq3]); go_simp; try with_reducible rfl)
    case rb3 =>
    try simp only [Act.put, zq4, zq5, zq6, zq1, zq2, zq3]
    refine wpAnyH_take (i := 4) (v := .slice (some ⟨g, o, none⟩) l c) rfl (by kernel_rfl) (by kernel_rfl) (by kernel_rfl) (fun _ _ _ h => h) (Or.inl ⟨by rfl, ?yb4⟩) (by assumption) ?rb4
    case yb4 => (intro w hSw; (try dsimp only at hSw); (try simp only [zq1, zq2, zq3]); go_simp; try with_reducible rfl)
    case rb4 =>
    try simp only [Act.put, zq4, zq5, zq6, zq1, zq2, zq3]
    refine wpAnyH_take (i := 5) (v := .int .i64 (l : Int)) rfl (by kernel_rfl) (by kernel_rfl) (by kernel_rfl) (fun _ _ _ h => h) (Or.inl ⟨by rfl, ?yb5⟩) (by assumption) ?rb5
    case yb5 => (intro w hSw; (try dsimp only at hSw); (try simp only [zq1, zq2, zq3]); go_simp; try with_reducible rfl)
    case rb5 =>
    try simp only [Act.put, zq4, zq5, zq6, zq1, zq2, zq3]
    have T5 := T4.drew
    have hB5 := hB4.turn (Turn.refl (fun _ => False) w4).drew id
    generalize w4.drew = w5 at T5 hB5 hR4 hHeld ⊢
    have hv2 := HV2.out.turn T5 (fun _ _ => id)
    refine wpAnyH_ready (rs := [6]) (by kernel_rfl) (by simp) ?_
    refine AllReadyH.cons rfl (fun K hK => ?_) AllReadyH.nil
    go_simp
    refine (last_anyS _ (ps.drop (whole ps.length)) l _ (by have := HDL.out; omega) (by omega) (.inl hv2)).mono ?_
    rintro r w6 ⟨v6, rfl, ho6, t6⟩
    have T6 := T5.trans t6 (fun _ _ => id)
    have hB6 := hB5.turn t6 id
    obtain ⟨lb, hlb⟩ : ∃ lb, (ps.drop (whole ps.length) ++ [128] ++ List.replicate (pads (ps.drop (whole ps.length)).length) 0 ++ lenB l 8) = lb := ⟨_, rfl⟩
    rw [hlb] at ho6
    have HLB := Lib.hid hlb
    have hr6 := Reads.of_owns ho6
    clear hlb
    have hrr := HR.out.turn T6
    have hS6 := rangeAt_turn hHeld t6 id
    refine hK.out _ _ hS6 (fun _ => ?_)
    clear hK K
    try simp only [Act.put, zq4, zq5, zq6, zq1, zq2, zq3]
    refine wpAnyH_ready (rs := [7]) (by kernel_rfl) (by simp) ?_
    refine AllReadyH.cons rfl (fun K hK => ?_) AllReadyH.nil
    go_simp
    refine (all_any s1 _ _ ks _ hr6 (by rw [← HLB.out]; have := HLL.out; omega) hrr).mono ?_
    rintro r w7 ⟨rfl, t7⟩
    generalize hs2 : stirN ks s1 lb (lb.length / 64) = s2
    have HS2 := Lib.hid hs2
    clear hs2
    have T7 := T6.trans t7 (fun _ _ => id)
    have hB7 := hB6.turn t7 id
    have hS7 := rangeAt_turn hS6 t7 id
    refine hK.out _ _ hS7 (fun _ => ?_)
    clear hK K
    try simp only [Act.put, zq4, zq5, zq6, zq1, zq2, zq3]
    refine wpAnyH_ready (rs := [8]) (by kernel_rfl) (by simp) ?_
    refine AllReadyH.cons rfl (fun K hK => ?_) AllReadyH.nil
    go_simp
    refine (key_any _ _).mono ?_
    rintro r w8 ⟨rfl, t8⟩
    have T8 := T7.trans t8 (fun _ _ => id)
    have hB8 := hB7.turn t8 id
    have hS8 := rangeAt_turn hS7 t8 id
    refine hK.out _ _ hS8 (fun _ => ?_)
    clear hK K
    try simp only [Act.put, zq4, zq5, zq6, zq1, zq2, zq3]
    have hkk : keyB s2 8 = keyB (shaE f ks ps) 8 := by rw [← HS2.out, ← HLB.out, ← HSE.out]; unfold shaE lastB; rw [HL.out]
    rw [hkk]
    have hkl := keyB_len (shaE f ks ps) 8
    generalize hkb : keyB (shaE f ks ps) 8 = kb at hkl ⊢
    have HKB := Lib.hid hkb
    clear hkk hkb
    have hth : w8.there w.heap.size 0 (kb.map (Value.int .u8)).toArray.size := by
      have := hB8.there
      simpa [hkl] using this
    have hi25 : (Tryz.prog.info? 32).map (·.size) = some (kb.map (Value.int .u8)).toArray.size := by rw [size25]; simp [hkl]
    have h1c : (kb.map (Value.int .u8)).toArray.all (·.oneCell') = true := all_oneCell_toArray (ints_oneCell _ _)
    refine wpAnyH_ready (rs := [9]) (by kernel_rfl) (by simp) ?_
    refine AllReadyH.cons rfl (fun K hK => ?_) AllReadyH.nil
    rw [if_pos (by rfl)]
    refine wp_store_mid 32 _ _ rfl w.heap.size 0 (kb.map (Value.int .u8)).toArray rfl rfl hth hi25 h1c ?_
    have hrg := World.rangeAt_setCells_same w8 w.heap.size 0 (kb.map (Value.int .u8)) (by simpa using hth)
    have t9 := turn_setCells w.heap.size (kb.map (Value.int .u8)) 0 w8
    have hS9 := rangeAt_turn hS8 t9 (by have := HBw.out; omega)
    have T9 := T8.trans t9 (fun q hq h => by omega)
    refine hK.out _ _ hS9 (fun _ => wpAnyH_done (by kernel_rfl) ?_ _)
    clear hK K
    change Exit.then _ _ _ _ (w8.setCells w.heap.size 0 (kb.map (Value.int .u8)))
    generalize w8.setCells w.heap.size 0 (kb.map (Value.int .u8)) = w9 at hrg t9 hS9 T9 ⊢
    clear t9 hS9 hS8 hth hB8 hB7 hB6 hB5 hB4 hr6 hrr
    go_wp2_with fail
    all_goals exact bodyPost_ret (v := .agg (kb.map (Value.int .u8)).toArray) (results_cell_mid Tryz.results28 _ _ w.heap.size _ _ rfl hrg Tryz.underlying32 rfl (by simpa using hi25)) rfl ⟨by rw [HKB.out], T9⟩
set_option maxHeartbeats 2000000 in
set_option maxRecDepth 100000 in
theorem of_none (ps ks : List Int) (f : Eight) (w : World) (hL : ps.length = 0) (hr : Roots w ks) (hf : w.rangeAt 0 0 f.vals) :
    Calls Tryz.prog 28 #[.slice none 0 0] w (KeyPost w (keyB (shaE f ks ps) 8)) := by
  have hp : ps = [] := List.eq_nil_of_length_eq_zero hL
  have hv1 : Reads w (.slice none 0 0) (ps.take (whole ps.length)) := by rw [hp]; exact .inl ⟨rfl, by simp⟩
  have hv2 : Reads w (.slice none 0 0) (ps.drop (whole ps.length)) := by rw [hp]; exact .inl ⟨rfl, by simp⟩
  have htl : (ps.take (whole ps.length)).length ≤ 60000000000000 := by simp only [List.length_take]; omega
  have hdl : (ps.drop (whole ps.length)).length ≤ 60000000000000 := by simp only [List.length_drop]; omega
  have hll : (ps.drop (whole ps.length) ++ [128] ++ List.replicate (pads (ps.drop (whole ps.length)).length) 0 ++ lenB 0 8).length ≤ 60000000000200 := by
    have : pads (ps.drop (whole ps.length)).length < 64 := by unfold pads; omega
    simp only [List.length_append, List.length_replicate, List.length_cons, List.length_nil, lenB, List.length_map, List.length_range]; omega
  have HTL := Lib.hid htl
  have HDL := Lib.hid hdl
  have HLL := Lib.hid hll
  have HV1 := Lib.hid hv1
  have HV2 := Lib.hid hv2
  have HL := Lib.hid hL
  have HR := Lib.hid hr
  have HF := Lib.hid hf
  clear hL hr hf hv1 hv2 htl hdl hll hp
  go_enter Tryz.func28, Tryz.ntmps28
  go_wp2_with fail
  generalize hW : World.alloc w _ = W1
  have hB0 : BytesAt W1 w.heap.size 32 (List.replicate 32 0) := by
    subst hW; exact heap_alloc_new w (.cells ((List.replicate 32 (0 : Int)).map (Value.int .u8)).toArray 32)
  have t0 : Turn (fun _ => False) w W1 := by subst hW; exact (Turn.refl _ w).alloc _
  have hs1 : W1.heap.size = w.heap.size + 1 := by subst hW; simp
  have hF1 : W1.drew.rangeAt 0 0 f.vals := rangeAt_turn HF.out t0.drew id
  have HS1 := Lib.hid hs1
  clear hW hs1
  refine wp_region_held_drew (S := fun w' => w'.rangeAt 0 0 f.vals) (by kernel_rfl) hF1 (fun hHeld => ?_)
  refine wpAnyH_take (i := 0) (v := .agg f.vals.toArray) rfl (by kernel_rfl) (by kernel_rfl) (by kernel_rfl) (fun _ _ _ h => h) (Or.inl ⟨by rfl, ?ya0⟩) (by assumption) ?ra0
  case ya0 => (intro w hSw; exact exec_load_mid _ _ 114 _ rfl 0 0 rfl f.vals _ _ hSw Tryz.underlying114 rfl size41)
  case ra0 =>
  try simp only [Act.put, zq4, zq5, zq6, zq1, zq2, zq3]
  refine wpAnyH_take (i := 1) (v := .slice none 0 0) rfl (by kernel_rfl) (by kernel_rfl) (by kernel_rfl) (fun _ _ _ h => h) (Or.inl ⟨by rfl, ?ya1⟩) (by assumption) ?ra1
  case ya1 => (intro w hSw; (try dsimp only at hSw); (try simp only [zq1, zq2, zq3]); go_simp; try with_reducible rfl)
  case ra1 =>
  try simp only [Act.put, zq4, zq5, zq6, zq1, zq2, zq3]
  refine wpAnyH_take (i := 2) (v := .int .i64 0) rfl (by kernel_rfl) (by kernel_rfl) (by kernel_rfl) (fun _ _ _ h => h) (Or.inl ⟨by rfl, ?ya2⟩) (by assumption) ?ra2
  case ya2 => (intro w hSw; (try dsimp only at hSw); (try simp only [zq1, zq2, zq3]); go_simp; try with_reducible rfl)
  case ra2 =>
  try simp only [Act.put, zq4, zq5, zq6, zq1, zq2, zq3]
  refine wpAnyH_take (i := 3) (v := .slice none 0 0) rfl (by kernel_rfl) (by kernel_rfl) (by kernel_rfl) (fun _ _ _ h => h) (Or.inl ⟨by rfl, ?ya3⟩) (by assumption) ?ra3
  case ya3 => (intro w hSw; (try dsimp only at hSw); (try simp only [zq1, zq2, zq3]); go_simp; try with_reducible rfl)
  case ra3 =>
  try simp only [Act.put, zq4, zq5, zq6, zq1, zq2, zq3]
  have t1 := t0.drew
  have hR1 := HR.out.turn t1
  have t1' : Turn (fun _ => False) W1 W1.drew := (Turn.refl _ W1).drew
  generalize W1.drew = w1 at t1 hR1 hF1 hHeld t1' ⊢
  have hv1 := HV1.out.turn t1 (fun _ _ => id)
  refine wpAnyH_ready (rs := [4, 5]) (by kernel_rfl) (by simp) ?_
  refine AllReadyH.cons rfl (fun K hK => ?_) (AllReadyH.cons rfl (fun K hK => ?_) AllReadyH.nil)
  · go_simp
    refine (all_any f _ (ps.take (whole ps.length)) ks _ hv1 (by have := HTL.out; omega) hR1).mono ?_
    rintro r w2 ⟨rfl, t2⟩
    generalize hs1 : stirN ks f (ps.take (whole ps.length)) ((ps.take (whole ps.length)).length / 64) = s1
    have HSE := Lib.hid hs1
    clear hs1
    have T2 := t1.trans t2 (fun _ _ => id)
    have T2' := t1'.trans t2 (fun _ _ => id)
    refine hK.out _ _ (rangeAt_turn HF.out T2 id) (fun _ => ?_)
    clear hK K
    try simp only [Act.put, zq4, zq5, zq6, zq1, zq2, zq3]
    refine wpAnyH_ready (rs := [5]) (by kernel_rfl) (by simp) ?_
    refine AllReadyH.cons rfl (fun K hK => ?_) AllReadyH.nil
    go_simp
    have Th := there_zero8 w2
    have T3 := T2.alloc (.cells #[.int .u32 0, .int .u32 0, .int .u32 0, .int .u32 0, .int .u32 0, .int .u32 0, .int .u32 0, .int .u32 0] 114)
    have T3' := T2'.alloc (.cells #[.int .u32 0, .int .u32 0, .int .u32 0, .int .u32 0, .int .u32 0, .int .u32 0, .int .u32 0, .int .u32 0] 114)
    refine hK.out _ _ (rangeAt_turn HF.out T3 id) (fun _ => ?_)
    clear hK K
    try simp only [Act.put, zq4, zq5, zq6, zq1, zq2, zq3]
    have hBB : W1.heap.size ≤ w2.heap.size := T2'.size
    have HBw := Lib.hid (show ¬ w2.heap.size = w.heap.size by have := HS1.out; omega)
    generalize w2.alloc _ = w3 at Th T3 T3' ⊢
    have HB := Lib.hid (show w.heap.size ≤ w2.heap.size ∧ W1.heap.size ≤ w2.heap.size from ⟨T2.size, hBB⟩)
    clear t2 T2 T2' hBB
    generalize w2.heap.size = B at Th HB HBw ⊢
    refine wpAnyH_ready (rs := [6]) (by kernel_rfl) (by simp) ?_
    refine AllReadyH.cons rfl (fun K hK => ?_) AllReadyH.nil
    rw [if_pos (by rfl)]
    refine wp_store_mid 114 _ _ rfl B 0 s1.vals.toArray rfl rfl Th size41 (vals_one _) ?_
    have t4 := turn_setCells B s1.vals 0 w3
    have R4 := World.rangeAt_setCells_same w3 B 0 s1.vals Th
    have T4 := T3.trans t4 (fun q hq h => by have := HB.out; omega)
    have T4' := T3'.trans t4 (fun q hq h => by have := HB.out; omega)
    have hF4 := rangeAt_turn HF.out T4 id
    refine hK.out _ _ hF4 (fun _ => wpAnyH_done (by kernel_rfl) ?_ _)
    clear hK K
    have hB4 := hB0.turn T4' id
    change Exit.then _ _ _ _ (w3.setCells B 0 s1.vals)
    generalize w3.setCells B 0 s1.vals = w4 at R4 T4 T4' hB4 hF4 ⊢
    clear t4 Th T3 T3' hF4 hHeld hF1 hv1 hR1 t1 t1'
    go_wp2_with fail
    have hR4 : w4.drew.rangeAt B 0 s1.vals := rangeAt_turn R4 (Turn.refl (fun _ => False) w4).drew id
    refine wp_region_held_drew (S := fun w' => w'.rangeAt B 0 s1.vals) (by kernel_rfl) hR4 (fun hHeld => ?_)
    refine wpAnyH_take (i := 0) (v := .agg s1.vals.toArray) rfl (by kernel_rfl) (by kernel_rfl) (by kernel_rfl) (fun _ _ _ h => h) (Or.inl ⟨by rfl, ?yb0⟩) (by assumption) ?rb0
    case yb0 => (intro w hSw; exact exec_load_mid _ _ 114 _ rfl B 0 rfl s1.vals _ _ hSw Tryz.underlying114 rfl size41)
    case rb0 =>
    try simp only [Act.put, zq4, zq5, zq6, zq1, zq2, zq3]
    refine wpAnyH_take (i := 1) (v := .slice none 0 0) rfl (by kernel_rfl) (by kernel_rfl) (by kernel_rfl) (fun _ _ _ h => h) (Or.inl ⟨by rfl, ?yb1⟩) (by assumption) ?rb1
    case yb1 => (intro w hSw; (try dsimp only at hSw); (try simp only [zq1, zq2, zq3]); go_simp; try with_reducible rfl)
    case rb1 =>
    try simp only [Act.put, zq4, zq5, zq6, zq1, zq2, zq3]
    refine wpAnyH_take (i := 2) (v := .int .i64 0) rfl (by kernel_rfl) (by kernel_rfl) (by kernel_rfl) (fun _ _ _ h => h) (Or.inl ⟨by rfl, ?yb2⟩) (by assumption) ?rb2
    case yb2 => (intro w hSw; (try dsimp only at hSw); (try simp only [zq1, zq2, zq3]); go_simp; try with_reducible rfl)
    case rb2 =>
    try simp only [Act.put, zq4, zq5, zq6, zq1, zq2, zq3]
    refine wpAnyH_take (i := 3) (v := .slice none 0 0) rfl (by kernel_rfl) (by kernel_rfl) (by kernel_rfl) (fun _ _ _ h => h) (Or.inl ⟨by rfl, ?yb3⟩) (by assumption) ?rb3
    case yb3 => (intro w hSw; (try dsimp only at hSw); (try simp only [zq1, zq2, zq3]); go_simp; try with_reducible rfl)
    case rb3 =>
    try simp only [Act.put, zq4, zq5, zq6, zq1, zq2, zq3]
    refine wpAnyH_take (i := 4) (v := .slice none 0 0) rfl (by kernel_rfl) (by kernel_rfl) (by kernel_rfl) (fun _ _ _ h => h) (Or.inl ⟨by rfl, ?yb4⟩) (by assumption) ?rb4
    case yb4 => (intro w hSw; (try dsimp only at hSw); (try simp only [zq1, zq2, zq3]); go_simp; try with_reducible rfl)
    case rb4 =>
    try simp only [Act.put, zq4, zq5, zq6, zq1, zq2, zq3]
    refine wpAnyH_take (i := 5) (v := .int .i64 0) rfl (by kernel_rfl) (by kernel_rfl) (by kernel_rfl) (fun _ _ _ h => h) (Or.inl ⟨by rfl, ?yb5⟩) (by assumption) ?rb5
    case yb5 => (intro w hSw; (try dsimp only at hSw); (try simp only [zq1, zq2, zq3]); go_simp; try with_reducible rfl)
    case rb5 =>
    try simp only [Act.put, zq4, zq5, zq6, zq1, zq2, zq3]
    have T5 := T4.drew
    have hB5 := hB4.turn (Turn.refl (fun _ => False) w4).drew id
    generalize w4.drew = w5 at T5 hB5 hR4 hHeld ⊢
    have hv2 := HV2.out.turn T5 (fun _ _ => id)
    refine wpAnyH_ready (rs := [6]) (by kernel_rfl) (by simp) ?_
    refine AllReadyH.cons rfl (fun K hK => ?_) AllReadyH.nil
    go_simp
    refine (last_anyS _ (ps.drop (whole ps.length)) 0 _ (by have := HDL.out; omega) (by omega) (.inl hv2)).mono ?_
    rintro r w6 ⟨v6, rfl, ho6, t6⟩
    have T6 := T5.trans t6 (fun _ _ => id)
    have hB6 := hB5.turn t6 id
    obtain ⟨lb, hlb⟩ : ∃ lb, (ps.drop (whole ps.length) ++ [128] ++ List.replicate (pads (ps.drop (whole ps.length)).length) 0 ++ lenB 0 8) = lb := ⟨_, rfl⟩
    rw [hlb] at ho6
    have HLB := Lib.hid hlb
    have hr6 := Reads.of_owns ho6
    clear hlb
    have hrr := HR.out.turn T6
    have hS6 := rangeAt_turn hHeld t6 id
    refine hK.out _ _ hS6 (fun _ => ?_)
    clear hK K
    try simp only [Act.put, zq4, zq5, zq6, zq1, zq2, zq3]
    refine wpAnyH_ready (rs := [7]) (by kernel_rfl) (by simp) ?_
    refine AllReadyH.cons rfl (fun K hK => ?_) AllReadyH.nil
    go_simp
    refine (all_any s1 _ _ ks _ hr6 (by rw [← HLB.out]; have := HLL.out; omega) hrr).mono ?_
    rintro r w7 ⟨rfl, t7⟩
    generalize hs2 : stirN ks s1 lb (lb.length / 64) = s2
    have HS2 := Lib.hid hs2
    clear hs2
    have T7 := T6.trans t7 (fun _ _ => id)
    have hB7 := hB6.turn t7 id
    have hS7 := rangeAt_turn hS6 t7 id
    refine hK.out _ _ hS7 (fun _ => ?_)
    clear hK K
    try simp only [Act.put, zq4, zq5, zq6, zq1, zq2, zq3]
    refine wpAnyH_ready (rs := [8]) (by kernel_rfl) (by simp) ?_
    refine AllReadyH.cons rfl (fun K hK => ?_) AllReadyH.nil
    go_simp
    refine (key_any _ _).mono ?_
    rintro r w8 ⟨rfl, t8⟩
    have T8 := T7.trans t8 (fun _ _ => id)
    have hB8 := hB7.turn t8 id
    have hS8 := rangeAt_turn hS7 t8 id
    refine hK.out _ _ hS8 (fun _ => ?_)
    clear hK K
    try simp only [Act.put, zq4, zq5, zq6, zq1, zq2, zq3]
    have hkk : keyB s2 8 = keyB (shaE f ks ps) 8 := by rw [← HS2.out, ← HLB.out, ← HSE.out]; unfold shaE lastB; rw [HL.out]
    rw [hkk]
    have hkl := keyB_len (shaE f ks ps) 8
    generalize hkb : keyB (shaE f ks ps) 8 = kb at hkl ⊢
    have HKB := Lib.hid hkb
    clear hkk hkb
    have hth : w8.there w.heap.size 0 (kb.map (Value.int .u8)).toArray.size := by
      have := hB8.there
      simpa [hkl] using this
    have hi25 : (Tryz.prog.info? 32).map (·.size) = some (kb.map (Value.int .u8)).toArray.size := by rw [size25]; simp [hkl]
    have h1c : (kb.map (Value.int .u8)).toArray.all (·.oneCell') = true := all_oneCell_toArray (ints_oneCell _ _)
    refine wpAnyH_ready (rs := [9]) (by kernel_rfl) (by simp) ?_
    refine AllReadyH.cons rfl (fun K hK => ?_) AllReadyH.nil
    rw [if_pos (by rfl)]
    refine wp_store_mid 32 _ _ rfl w.heap.size 0 (kb.map (Value.int .u8)).toArray rfl rfl hth hi25 h1c ?_
    have hrg := World.rangeAt_setCells_same w8 w.heap.size 0 (kb.map (Value.int .u8)) (by simpa using hth)
    have t9 := turn_setCells w.heap.size (kb.map (Value.int .u8)) 0 w8
    have hS9 := rangeAt_turn hS8 t9 (by have := HBw.out; omega)
    have T9 := T8.trans t9 (fun q hq h => by omega)
    refine hK.out _ _ hS9 (fun _ => wpAnyH_done (by kernel_rfl) ?_ _)
    clear hK K
    change Exit.then _ _ _ _ (w8.setCells w.heap.size 0 (kb.map (Value.int .u8)))
    generalize w8.setCells w.heap.size 0 (kb.map (Value.int .u8)) = w9 at hrg t9 hS9 T9 ⊢
    clear t9 hS9 hS8 hth hB8 hB7 hB6 hB5 hB4 hr6 hrr
    go_wp2_with fail
    all_goals exact bodyPost_ret (v := .agg (kb.map (Value.int .u8)).toArray) (results_cell_mid Tryz.results28 _ _ w.heap.size _ _ rfl hrg Tryz.underlying32 rfl (by simpa using hi25)) rfl ⟨by rw [HKB.out], T9⟩
  · go_simp
    have Th := there_zero8 w1
    have T2 := t1.alloc (.cells #[.int .u32 0, .int .u32 0, .int .u32 0, .int .u32 0, .int .u32 0, .int .u32 0, .int .u32 0, .int .u32 0] 114)
    have T2' := t1'.alloc (.cells #[.int .u32 0, .int .u32 0, .int .u32 0, .int .u32 0, .int .u32 0, .int .u32 0, .int .u32 0, .int .u32 0] 114)
    refine hK.out _ _ (rangeAt_turn HF.out T2 id) (fun _ => ?_)
    clear hK K
    try simp only [Act.put, zq4, zq5, zq6, zq1, zq2, zq3]
    have HBw := Lib.hid (show ¬ w1.heap.size = w.heap.size by have := HS1.out; have := t1'.size; omega)
    have HB := Lib.hid (show w.heap.size ≤ w1.heap.size ∧ W1.heap.size ≤ w1.heap.size from ⟨t1.size, t1'.size⟩)
    generalize w1.alloc _ = w2 at Th T2 T2' ⊢
    generalize w1.heap.size = B at Th HB HBw ⊢
    refine wpAnyH_ready (rs := [4]) (by kernel_rfl) (by simp) ?_
    refine AllReadyH.cons rfl (fun K hK => ?_) AllReadyH.nil
    go_simp
    refine (all_any f _ (ps.take (whole ps.length)) ks _ (HV1.out.turn T2 (fun _ _ => id)) (by have := HTL.out; omega) (HR.out.turn T2)).mono ?_
    rintro r w3 ⟨rfl, t3⟩
    generalize hs1 : stirN ks f (ps.take (whole ps.length)) ((ps.take (whole ps.length)).length / 64) = s1
    have HSE := Lib.hid hs1
    clear hs1
    have T3 := T2.trans t3 (fun _ _ => id)
    have T3' := T2'.trans t3 (fun _ _ => id)
    replace Th := there_turn Th t3 id
    refine hK.out _ _ (rangeAt_turn HF.out T3 id) (fun _ => ?_)
    clear hK K t3 T2 T2'
    try simp only [Act.put, zq4, zq5, zq6, zq1, zq2, zq3]
    refine wpAnyH_ready (rs := [6]) (by kernel_rfl) (by simp) ?_
    refine AllReadyH.cons rfl (fun K hK => ?_) AllReadyH.nil
    rw [if_pos (by rfl)]
    refine wp_store_mid 114 _ _ rfl B 0 s1.vals.toArray rfl rfl Th size41 (vals_one _) ?_
    have t4 := turn_setCells B s1.vals 0 w3
    have R4 := World.rangeAt_setCells_same w3 B 0 s1.vals Th
    have T4 := T3.trans t4 (fun q hq h => by have := HB.out; omega)
    have T4' := T3'.trans t4 (fun q hq h => by have := HB.out; omega)
    have hF4 := rangeAt_turn HF.out T4 id
    refine hK.out _ _ hF4 (fun _ => wpAnyH_done (by kernel_rfl) ?_ _)
    clear hK K
    have hB4 := hB0.turn T4' id
    change Exit.then _ _ _ _ (w3.setCells B 0 s1.vals)
    generalize w3.setCells B 0 s1.vals = w4 at R4 T4 T4' hB4 hF4 ⊢
    clear t4 Th T3 T3' hF4 hHeld hF1 hv1 hR1 t1 t1'
    go_wp2_with fail
    have hR4 : w4.drew.rangeAt B 0 s1.vals := rangeAt_turn R4 (Turn.refl (fun _ => False) w4).drew id
    refine wp_region_held_drew (S := fun w' => w'.rangeAt B 0 s1.vals) (by kernel_rfl) hR4 (fun hHeld => ?_)
    refine wpAnyH_take (i := 0) (v := .agg s1.vals.toArray) rfl (by kernel_rfl) (by kernel_rfl) (by kernel_rfl) (fun _ _ _ h => h) (Or.inl ⟨by rfl, ?yb0⟩) (by assumption) ?rb0
    case yb0 => (intro w hSw; exact exec_load_mid _ _ 114 _ rfl B 0 rfl s1.vals _ _ hSw Tryz.underlying114 rfl size41)
    case rb0 =>
    try simp only [Act.put, zq4, zq5, zq6, zq1, zq2, zq3]
    refine wpAnyH_take (i := 1) (v := .slice none 0 0) rfl (by kernel_rfl) (by kernel_rfl) (by kernel_rfl) (fun _ _ _ h => h) (Or.inl ⟨by rfl, ?yb1⟩) (by assumption) ?rb1
    case yb1 => (intro w hSw; (try dsimp only at hSw); (try simp only [zq1, zq2, zq3]); go_simp; try with_reducible rfl)
    case rb1 =>
    try simp only [Act.put, zq4, zq5, zq6, zq1, zq2, zq3]
    refine wpAnyH_take (i := 2) (v := .int .i64 0) rfl (by kernel_rfl) (by kernel_rfl) (by kernel_rfl) (fun _ _ _ h => h) (Or.inl ⟨by rfl, ?yb2⟩) (by assumption) ?rb2
    case yb2 => (intro w hSw; (try dsimp only at hSw); (try simp only [zq1, zq2, zq3]); go_simp; try with_reducible rfl)
    case rb2 =>
    try simp only [Act.put, zq4, zq5, zq6, zq1, zq2, zq3]
    refine wpAnyH_take (i := 3) (v := .slice none 0 0) rfl (by kernel_rfl) (by kernel_rfl) (by kernel_rfl) (fun _ _ _ h => h) (Or.inl ⟨by rfl, ?yb3⟩) (by assumption) ?rb3
    case yb3 => (intro w hSw; (try dsimp only at hSw); (try simp only [zq1, zq2, zq3]); go_simp; try with_reducible rfl)
    case rb3 =>
    try simp only [Act.put, zq4, zq5, zq6, zq1, zq2, zq3]
    refine wpAnyH_take (i := 4) (v := .slice none 0 0) rfl (by kernel_rfl) (by kernel_rfl) (by kernel_rfl) (fun _ _ _ h => h) (Or.inl ⟨by rfl, ?yb4⟩) (by assumption) ?rb4
    case yb4 => (intro w hSw; (try dsimp only at hSw); (try simp only [zq1, zq2, zq3]); go_simp; try with_reducible rfl)
    case rb4 =>
    try simp only [Act.put, zq4, zq5, zq6, zq1, zq2, zq3]
    refine wpAnyH_take (i := 5) (v := .int .i64 0) rfl (by kernel_rfl) (by kernel_rfl) (by kernel_rfl) (fun _ _ _ h => h) (Or.inl ⟨by rfl, ?yb5⟩) (by assumption) ?rb5
    case yb5 => (intro w hSw; (try dsimp only at hSw); (try simp only [zq1, zq2, zq3]); go_simp; try with_reducible rfl)
    case rb5 =>
    try simp only [Act.put, zq4, zq5, zq6, zq1, zq2, zq3]
    have T5 := T4.drew
    have hB5 := hB4.turn (Turn.refl (fun _ => False) w4).drew id
    generalize w4.drew = w5 at T5 hB5 hR4 hHeld ⊢
    have hv2 := HV2.out.turn T5 (fun _ _ => id)
    refine wpAnyH_ready (rs := [6]) (by kernel_rfl) (by simp) ?_
    refine AllReadyH.cons rfl (fun K hK => ?_) AllReadyH.nil
    go_simp
    refine (last_anyS _ (ps.drop (whole ps.length)) 0 _ (by have := HDL.out; omega) (by omega) (.inl hv2)).mono ?_
    rintro r w6 ⟨v6, rfl, ho6, t6⟩
    have T6 := T5.trans t6 (fun _ _ => id)
    have hB6 := hB5.turn t6 id
    obtain ⟨lb, hlb⟩ : ∃ lb, (ps.drop (whole ps.length) ++ [128] ++ List.replicate (pads (ps.drop (whole ps.length)).length) 0 ++ lenB 0 8) = lb := ⟨_, rfl⟩
    rw [hlb] at ho6
    have HLB := Lib.hid hlb
    have hr6 := Reads.of_owns ho6
    clear hlb
    have hrr := HR.out.turn T6
    have hS6 := rangeAt_turn hHeld t6 id
    refine hK.out _ _ hS6 (fun _ => ?_)
    clear hK K
    try simp only [Act.put, zq4, zq5, zq6, zq1, zq2, zq3]
    refine wpAnyH_ready (rs := [7]) (by kernel_rfl) (by simp) ?_
    refine AllReadyH.cons rfl (fun K hK => ?_) AllReadyH.nil
    go_simp
    refine (all_any s1 _ _ ks _ hr6 (by rw [← HLB.out]; have := HLL.out; omega) hrr).mono ?_
    rintro r w7 ⟨rfl, t7⟩
    generalize hs2 : stirN ks s1 lb (lb.length / 64) = s2
    have HS2 := Lib.hid hs2
    clear hs2
    have T7 := T6.trans t7 (fun _ _ => id)
    have hB7 := hB6.turn t7 id
    have hS7 := rangeAt_turn hS6 t7 id
    refine hK.out _ _ hS7 (fun _ => ?_)
    clear hK K
    try simp only [Act.put, zq4, zq5, zq6, zq1, zq2, zq3]
    refine wpAnyH_ready (rs := [8]) (by kernel_rfl) (by simp) ?_
    refine AllReadyH.cons rfl (fun K hK => ?_) AllReadyH.nil
    go_simp
    refine (key_any _ _).mono ?_
    rintro r w8 ⟨rfl, t8⟩
    have T8 := T7.trans t8 (fun _ _ => id)
    have hB8 := hB7.turn t8 id
    have hS8 := rangeAt_turn hS7 t8 id
    refine hK.out _ _ hS8 (fun _ => ?_)
    clear hK K
    try simp only [Act.put, zq4, zq5, zq6, zq1, zq2, zq3]
    have hkk : keyB s2 8 = keyB (shaE f ks ps) 8 := by rw [← HS2.out, ← HLB.out, ← HSE.out]; unfold shaE lastB; rw [HL.out]
    rw [hkk]
    have hkl := keyB_len (shaE f ks ps) 8
    generalize hkb : keyB (shaE f ks ps) 8 = kb at hkl ⊢
    have HKB := Lib.hid hkb
    clear hkk hkb
    have hth : w8.there w.heap.size 0 (kb.map (Value.int .u8)).toArray.size := by
      have := hB8.there
      simpa [hkl] using this
    have hi25 : (Tryz.prog.info? 32).map (·.size) = some (kb.map (Value.int .u8)).toArray.size := by rw [size25]; simp [hkl]
    have h1c : (kb.map (Value.int .u8)).toArray.all (·.oneCell') = true := all_oneCell_toArray (ints_oneCell _ _)
    refine wpAnyH_ready (rs := [9]) (by kernel_rfl) (by simp) ?_
    refine AllReadyH.cons rfl (fun K hK => ?_) AllReadyH.nil
    rw [if_pos (by rfl)]
    refine wp_store_mid 32 _ _ rfl w.heap.size 0 (kb.map (Value.int .u8)).toArray rfl rfl hth hi25 h1c ?_
    have hrg := World.rangeAt_setCells_same w8 w.heap.size 0 (kb.map (Value.int .u8)) (by simpa using hth)
    have t9 := turn_setCells w.heap.size (kb.map (Value.int .u8)) 0 w8
    have hS9 := rangeAt_turn hS8 t9 (by have := HBw.out; omega)
    have T9 := T8.trans t9 (fun q hq h => by omega)
    refine hK.out _ _ hS9 (fun _ => wpAnyH_done (by kernel_rfl) ?_ _)
    clear hK K
    change Exit.then _ _ _ _ (w8.setCells w.heap.size 0 (kb.map (Value.int .u8)))
    generalize w8.setCells w.heap.size 0 (kb.map (Value.int .u8)) = w9 at hrg t9 hS9 T9 ⊢
    clear t9 hS9 hS8 hth hB8 hB7 hB6 hB5 hB4 hr6 hrr
    go_wp2_with fail
    all_goals exact bodyPost_ret (v := .agg (kb.map (Value.int .u8)).toArray) (results_cell_mid Tryz.results28 _ _ w.heap.size _ _ rfl hrg Tryz.underlying32 rfl (by simpa using hi25)) rfl ⟨by rw [HKB.out], T9⟩
theorem of_anyS (v : Value) (ps ks : List Int) (f : Eight) (w : World) (hv : Reads w v ps) (hl : ps.length ≤ 60000000000000) (hr : Roots w ks) (hf : w.rangeAt 0 0 f.vals) :
    Calls Tryz.prog 28 #[v] w (KeyPost w (keyB (shaE f ks ps) 8)) := by
  rcases hv with ⟨rfl, rfl⟩ | ⟨g, o, cap, rfl, hc, hcell⟩
  · exact of_none [] ks f w rfl hr hf
  · exact of_some g o _ cap ps ks f w rfl hc hcell hl hr hf
end Go.Proofs.YtboofamenpcnhaaGreatDoor
