/- Own: the walk of StampTexts. -/
import Derived.Test.YtimajdbgeibalaaDoorRead
import Derived.Test.YtimajdbgeibalaaDoorAwake
import Derived.Test.YtimajdbgeibalaaDoorSame
namespace Go.Proofs.YtimajdbgeibalaaDoor
open Go.RowKit
set_option linter.unusedVariables false
set_option linter.unusedSimpArgs false

theorem hexB_even : ∀ (ks : List Int) (i : Nat), i < ks.length → (hexB ks).getD (2 * i) 0 = hexd (ks.getD i 0 / 16)
  | [], i, h => by simp at h
  | x :: ks, 0, _ => rfl
  | x :: ks, i + 1, h => by
    have := hexB_even ks i (by simpa using h)
    rw [show 2 * (i + 1) = 2 * i + 1 + 1 by omega]
    simpa [hexB, List.getD] using this
theorem hexB_odd : ∀ (ks : List Int) (i : Nat), i < ks.length → (hexB ks).getD (2 * i + 1) 0 = hexd (ks.getD i 0 % 16)
  | [], i, h => by simp at h
  | x :: ks, 0, _ => rfl
  | x :: ks, i + 1, h => by
    have := hexB_odd ks i (by simpa using h)
    rw [show 2 * (i + 1) + 1 = (2 * i + 1) + 1 + 1 by omega]
    simpa [hexB, List.getD] using this
theorem hexd_all : (List.range 16).all (fun n => decide (unhex (hexd (n : Int)) = (n : Int)) && decide (0 ≤ hexd (n : Int)) && decide (hexd (n : Int) < 256)) = true := by kernel_rfl
theorem hexd_back (d : Int) (h0 : 0 ≤ d) (h1 : d < 16) : unhex (hexd d) = d ∧ 0 ≤ hexd d ∧ hexd d < 256 := by
  obtain ⟨n, rfl⟩ := Int.eq_ofNat_of_zero_le h0
  have := List.all_eq_true.1 hexd_all n (by simp; omega)
  simp only [Bool.and_eq_true, decide_eq_true_eq] at this
  exact ⟨this.1.1, this.1.2, this.2⟩
theorem hexB_bytes : ∀ (ks : List Int), (∀ x ∈ ks, 0 ≤ x ∧ x < 256) → ∀ y ∈ hexB ks, 0 ≤ y ∧ y < 256
  | [], _, y, hy => by simp [hexB] at hy
  | x :: ks, h, y, hy => by
    have hx := h x (by simp)
    simp only [hexB, List.mem_cons] at hy
    rcases hy with rfl | rfl | hy
    · exact (hexd_back _ (by omega) (by omega)).2
    · exact (hexd_back _ (by omega) (by omega)).2
    · exact hexB_bytes ks (fun z hz => h z (by simp [hz])) y hy
theorem getD_mem {ks : List Int} {i : Nat} (h : i < ks.length) : ks.getD i 0 ∈ ks := by simp [List.getD, h]
theorem readOk_hex (ks : List Int) (hl : ks.length = 32) (hk : ∀ x ∈ ks, 0 ≤ x ∧ x < 256) : readOk (hexB ks) = true := by
  refine (readOk_iff _).2 ⟨by rw [hexB_len]; omega, fun i hi => ?_⟩
  have hx := hk _ (getD_mem (ks := ks) (i := i) (by omega))
  unfold goodAt
  rw [hexB_even ks i (by omega), hexB_odd ks i (by omega), (hexd_back _ (by omega) (by omega)).1, (hexd_back _ (by omega) (by omega)).1]
  omega
theorem readK_hex (ks : List Int) (hl : ks.length = 32) (hk : ∀ x ∈ ks, 0 ≤ x ∧ x < 256) : readK (hexB ks) = ks := by
  unfold readK
  rw [readOk_hex ks hl hk, if_pos rfl]
  apply List.ext_getElem
  · rw [keyOf_len, hl]
  · intro i h1 h2
    have hi : i < 32 := by rw [keyOf_len] at h1; exact h1
    have hx := hk _ (getD_mem (ks := ks) (i := i) (by omega))
    simp only [keyOf, List.getElem_map, List.getElem_range]
    unfold byteOf
    rw [hexB_even ks i (by omega), hexB_odd ks i (by omega), (hexd_back _ (by omega) (by omega)).1, (hexd_back _ (by omega) (by omega)).1]
    have : ks.getD i 0 = ks[i] := by simp [List.getD, h2]
    omega

theorem texts_start (ks : List Int) (w : World) : (w.alloc (.cells (ks.map (Value.int .u8)).toArray 24)).heap[w.heap.size]? = some (.cells (ks.map (Value.int .u8)).toArray 24 (0, 0)) := heap_alloc_new w _
theorem texts_there (w W : World) (ks : List Int) (hl : ks.length = 32) (h : w.alloc (.cells ((List.replicate 32 (0 : Int)).map (Value.int .u8)).toArray 25) = W) : W.there w.heap.size 0 (ks.map (Value.int .u8)).toArray.size := by
  subst h
  have hb : BytesAt (w.alloc (.cells ((List.replicate 32 (0 : Int)).map (Value.int .u8)).toArray 25)) w.heap.size 25 (List.replicate 32 0) := heap_alloc_new w _
  have := hb.there
  simpa [hl] using this
theorem wpList_load_want {P : Program} {ops : Array Oper} {rest : List Oper} {op : Oper} {a : Act} {w : World} {Q : Exit → Act → World → Prop} (hw : Region.wanted op (yielded ops a.tmps) = true) (ty : TypeId) (x : Operand) (ho : op.op = .load ty x)
    (b o : Nat) (hx : a.eval x = .pointer (some ⟨b, o, none⟩)) (cs : List Value) (d : TypeDesc) (hc : w.rangeAt b o cs)
    (hu : P.underlying ty = some d) (hd : d.isRow = true) (hi : (P.info? ty).map (·.size) = some cs.length)
    (h : wpList P ops Q rest (a.put op.dst (.agg cs.toArray)) w) : wpList P ops Q (op :: rest) a w := by
  unfold wpList
  rw [if_pos hw]
  exact .inl (wp_load_mid ty x ho b o hx cs d hc hu hd hi h)
theorem BytesAt.range {w : World} {B : Nat} {t : TypeId} {ks : List Int} (h : BytesAt w B t ks) : w.rangeAt B 0 (ks.map (Value.int .u8)) := fun j v hv => by
  rw [Nat.zero_add, cell_of_row _ _ _ _ t (0, 0) h]; simpa using hv
theorem size24 : (Tryd.prog.info? 24).map (·.size) = some 32 := by kernel_rfl

set_option maxHeartbeats 1000000 in
set_option maxRecDepth 100000 in
theorem stexts_walk (ks : List Int) (w : World) (hl : ks.length = 32) (hk : ∀ x ∈ ks, 0 ≤ x ∧ x < 256) (ht : Tables w) :
    Calls Tryd.prog 5 #[.agg (ks.map (Value.int .u8)).toArray] w fun e w' => e = .returned (.bool true) ∧ Turn (fun _ => False) w w' := by
  have HT := Lib.hid ht
  have HK := Lib.hid hk
  have HL := Lib.hid hl
  have hi24 : (Tryd.prog.info? 24).map (·.size) = some (ks.map (Value.int .u8)).toArray.size := by rw [size24]; simp [hl]
  clear ht hk
  go_enter Tryd.func5, Tryd.ntmps5
  go_wp2_with (refine wpList_load_row rfl 24 _ rfl w.heap.size rfl 24 _ (0, 0) _ (texts_start ks w) Tryd.underlying24 rfl hi24 ?_)
  have T0 := (Turn.refl (fun _ => False) w).alloc (.cells (ks.map (Value.int .u8)).toArray 24)
  have hb0 : BytesAt (w.alloc (.cells (ks.map (Value.int .u8)).toArray 24)) w.heap.size 24 ks := texts_start ks w
  generalize w.alloc (.cells (ks.map (Value.int .u8)).toArray 24) = w0 at T0 hb0 ⊢
  refine (text_any ks _ hl HK.out).mono ?_
  rintro e w1 ⟨rfl, t1⟩
  have T1 := T0.trans t1 (fun _ _ => id)
  have hb1 := hb0.turn t1 id
  clear T0 hb0 t1
  have hsz : (strOfNums (hexB ks)).size = 64 := by rw [nums_size, hexB_len]; omega
  obtain ⟨st, hst⟩ : ∃ st, strOfNums (hexB ks) = st := ⟨_, rfl⟩
  rw [hst] at hsz ⊢
  have hsi : ∀ (i : Nat) (w : World), i < 64 → (Instr.index 9 (.string st) (.int .i64 (i : Int))).run Tryd.prog w = .ok (.int .u8 ((hexB ks).getD i 0)) w := fun i w hi => by
    rw [← hst]; exact run_index_nums _ i w (by rw [hexB_len]; omega) (hexB_bytes ks HK.out)
  have HI := Lib.hid hsi
  have HST := Lib.hid hst
  clear hsi hst
  have hne : ((64 : Int) != 64) = false := by decide
  go_wp2_with fail
  go_loopw [5] (fun iv wr => ∃ (k : Nat), k ≤ 32 ∧ iv = .int .i64 (k : Int) ∧ BytesAt wr w.heap.size 24 ks ∧ Turn (fun _ => False) w wr) (fun iv _ => (32 - intOf iv).toNat)
  case atStart => exact ⟨0, by omega, rfl, hb1, T1⟩
  case round =>
    clear hb1 T1
    obtain ⟨k, hk, rfl, hB, hT⟩ := hrel
    by_cases hlt : k < 32
    · have hd : decide ((k : Int) < 32) = true := by simp; omega
      obtain ⟨x, hx⟩ : ∃ x, ks.getD k 0 = x := ⟨_, rfl⟩
      have hxb := HK.out _ (getD_mem (ks := ks) (i := k) (by omega))
      have e0 := hexB_even ks k (by omega)
      have e1 := hexB_odd ks k (by omega)
      rw [hx] at hxb e0 e1
      have hi0 : ∀ w, (Instr.index 9 (.string st) (.int .i64 (2 * (k : Int)))).run Tryd.prog w = .ok (.int .u8 (hexd (x / 16))) w := fun w => by have := HI.out (2 * k) w (by omega); rw [e0] at this; simpa using this
      have hi1 : ∀ w, (Instr.index 9 (.string st) (.int .i64 (2 * (k : Int) + 1))).run Tryd.prog w = .ok (.int .u8 (hexd (x % 16))) w := fun w => by have := HI.out (2 * k + 1) w (by omega); rw [e1] at this; simpa using this
      have HI0 := Lib.hid hi0
      have HI1 := Lib.hid hi1
      have hc := hB.cell k (by omega)
      rw [hx] at hc
      have HX := Lib.hid hx
      clear hi0 hi1 e0 e1 hx
      have hw2 : IntKind.i64.wrap (2 * (k : Int)) = 2 * (k : Int) := IntWalk.i64_in _ (by omega)
      have hw3 : IntKind.i64.wrap (2 * (k : Int) + 1) = 2 * (k : Int) + 1 := IntWalk.i64_in _ (by omega)
      have hkk : (0 : Int) ≤ (k : Int) ∧ (k : Int) < 32 := by omega
      have hx0 : 0 ≤ x := hxb.1
      have hx1 : x < 256 := hxb.2
      have hq : IntKind.u8.wrap (x.tdiv 16) = x / 16 := by rw [Int.tdiv_eq_ediv_of_nonneg hx0]; exact IntWalk.u8_in _ (by omega)
      have hr : x.tmod 16 = x % 16 := Int.tmod_eq_emod_of_nonneg hx0
      go_wp2_with fail
      have hc1 : wr.drew.cell? ⟨w.heap.size, k, none⟩ = some (.int .u8 x) := hc
      refine wp_region_held_drew (S := fun w' => w'.cell? ⟨w.heap.size, k, none⟩ = some (.int .u8 x)) (by kernel_rfl) hc1 (fun hHeld => ?_)
      refine wpAnyH_take (i := 0) (v := .string st) rfl (by kernel_rfl) (by kernel_rfl) (by kernel_rfl) (fun _ _ _ h => h) (Or.inl ⟨by rfl, ?y0⟩) (by assumption) ?r0
      case y0 => (intro w hSw; (try dsimp only at hSw); (try simp only [List.getElem_toArray, List.getElem_cons_zero, List.getElem_cons_succ]); go_simp; try with_reducible rfl)
      case r0 =>
      try simp only [Act.put, List.setIfInBounds_toArray, List.set_cons_zero, List.set_cons_succ, List.getElem_toArray, List.getElem_cons_zero, List.getElem_cons_succ]
      refine wpAnyH_take (i := 1) (v := .int .i64 (k : Int)) rfl (by kernel_rfl) (by kernel_rfl) (by kernel_rfl) (fun _ _ _ h => h) (Or.inl ⟨by rfl, ?y1⟩) (by assumption) ?r1
      case y1 => (intro w hSw; (try dsimp only at hSw); (try simp only [List.getElem_toArray, List.getElem_cons_zero, List.getElem_cons_succ]); go_simp; try with_reducible rfl)
      case r1 =>
      try simp only [Act.put, List.setIfInBounds_toArray, List.set_cons_zero, List.set_cons_succ, List.getElem_toArray, List.getElem_cons_zero, List.getElem_cons_succ]
      refine wpAnyH_take (i := 2) (v := .int .i64 (2 * (k : Int))) rfl (by kernel_rfl) (by kernel_rfl) (by kernel_rfl) (fun _ _ _ h => h) (Or.inl ⟨by rfl, ?y2⟩) (by assumption) ?r2
      case y2 => (intro w hSw; (try dsimp only at hSw); (try simp only [List.getElem_toArray, List.getElem_cons_zero, List.getElem_cons_succ]); go_simp; try with_reducible rfl)
      case r2 =>
      try simp only [Act.put, List.setIfInBounds_toArray, List.set_cons_zero, List.set_cons_succ, List.getElem_toArray, List.getElem_cons_zero, List.getElem_cons_succ]
      refine wpAnyH_take (i := 3) (v := .int .u8 (hexd (x / 16))) rfl (by kernel_rfl) (by kernel_rfl) (by kernel_rfl) (fun _ _ _ h => h) (Or.inl ⟨by rfl, ?y3⟩) (by assumption) ?r3
      case y3 => (intro w hSw; exact exec_index _ _ 9 (.tmp 17) (.tmp 19) rfl (.string st) (.int .i64 (2 * (k : Int))) _ _ rfl rfl (HI0.out _))
      case r3 =>
      try simp only [Act.put, List.setIfInBounds_toArray, List.set_cons_zero, List.set_cons_succ, List.getElem_toArray, List.getElem_cons_zero, List.getElem_cons_succ]
      refine wpAnyH_take (i := 4) (v := .string ⟨#[48, 49, 50, 51, 52, 53, 54, 55, 56, 57, 97, 98, 99, 100, 101, 102]⟩) rfl (by kernel_rfl) (by kernel_rfl) (by kernel_rfl) (fun _ _ _ h => h) (Or.inl ⟨by rfl, ?y4⟩) (by assumption) ?r4
      case y4 => (intro w hSw; (try dsimp only at hSw); (try simp only [List.getElem_toArray, List.getElem_cons_zero, List.getElem_cons_succ]); go_simp; try with_reducible rfl)
      case r4 =>
      try simp only [Act.put, List.setIfInBounds_toArray, List.set_cons_zero, List.set_cons_succ, List.getElem_toArray, List.getElem_cons_zero, List.getElem_cons_succ]
      refine wpAnyH_take (i := 5) (v := .int .i64 (k : Int)) rfl (by kernel_rfl) (by kernel_rfl) (by kernel_rfl) (fun _ _ _ h => h) (Or.inl ⟨by rfl, ?y5⟩) (by assumption) ?r5
      case y5 => (intro w hSw; (try dsimp only at hSw); (try simp only [List.getElem_toArray, List.getElem_cons_zero, List.getElem_cons_succ]); go_simp; try with_reducible rfl)
      case r5 =>
      try simp only [Act.put, List.setIfInBounds_toArray, List.set_cons_zero, List.set_cons_succ, List.getElem_toArray, List.getElem_cons_zero, List.getElem_cons_succ]
      refine wpAnyH_take (i := 6) (v := .pointer (some ⟨w.heap.size, k, none⟩)) rfl (by kernel_rfl) (by kernel_rfl) (by kernel_rfl) (fun _ _ _ h => h) (Or.inl ⟨by rfl, ?y6⟩) (by assumption) ?r6
      case y6 => (intro w hSw; (try dsimp only at hSw); (try simp only [List.getElem_toArray, List.getElem_cons_zero, List.getElem_cons_succ]); go_simp; try with_reducible rfl)
      case r6 =>
      try simp only [Act.put, List.setIfInBounds_toArray, List.set_cons_zero, List.set_cons_succ, List.getElem_toArray, List.getElem_cons_zero, List.getElem_cons_succ]
      refine wpAnyH_take (i := 7) (v := .int .u8 x) rfl (by kernel_rfl) (by kernel_rfl) (by kernel_rfl) (fun _ _ _ h => h) (Or.inl ⟨by rfl, ?y7⟩) (by assumption) ?r7
      case y7 => (intro w hSw; (try dsimp only at hSw); (try simp only [List.getElem_toArray, List.getElem_cons_zero, List.getElem_cons_succ]); go_simp; try with_reducible rfl)
      case r7 =>
      try simp only [Act.put, List.setIfInBounds_toArray, List.set_cons_zero, List.set_cons_succ, List.getElem_toArray, List.getElem_cons_zero, List.getElem_cons_succ]
      refine wpAnyH_take (i := 8) (v := .int .u8 (x / 16)) rfl (by kernel_rfl) (by kernel_rfl) (by kernel_rfl) (fun _ _ _ h => h) (Or.inl ⟨by rfl, ?y8⟩) (by assumption) ?r8
      case y8 => (intro w hSw; (try dsimp only at hSw); (try simp only [List.getElem_toArray, List.getElem_cons_zero, List.getElem_cons_succ]); go_simp; try with_reducible rfl)
      case r8 =>
      try simp only [Act.put, List.setIfInBounds_toArray, List.set_cons_zero, List.set_cons_succ, List.getElem_toArray, List.getElem_cons_zero, List.getElem_cons_succ]
      refine wpAnyH_take (i := 9) (v := .int .u8 (hexd (x / 16))) rfl (by kernel_rfl) (by kernel_rfl) (by kernel_rfl) (fun _ _ _ h => h) (Or.inl ⟨by rfl, ?y9⟩) (by assumption) ?r9
      case y9 => (intro w hSw; exact exec_index _ _ 9 (.tmp 21) (.tmp 25) rfl (.string ⟨#[48, 49, 50, 51, 52, 53, 54, 55, 56, 57, 97, 98, 99, 100, 101, 102]⟩) (.int .u8 (x / 16)) _ _ rfl rfl (hex_index _ (by omega) (by omega) _))
      case r9 =>
      try simp only [Act.put, List.setIfInBounds_toArray, List.set_cons_zero, List.set_cons_succ, List.getElem_toArray, List.getElem_cons_zero, List.getElem_cons_succ]
      refine wpAnyH_take (i := 10) (v := .bool false) rfl (by kernel_rfl) (by kernel_rfl) (by kernel_rfl) (fun _ _ _ h => h) (Or.inl ⟨by rfl, ?y10⟩) (by assumption) ?r10
      case y10 => (intro w hSw; (try dsimp only at hSw); (try simp only [List.getElem_toArray, List.getElem_cons_zero, List.getElem_cons_succ]); go_simp; try with_reducible rfl)
      case r10 =>
      try simp only [Act.put, List.setIfInBounds_toArray, List.set_cons_zero, List.set_cons_succ, List.getElem_toArray, List.getElem_cons_zero, List.getElem_cons_succ]
      refine wpAnyH_take (i := 11) (v := .bool false) rfl (by kernel_rfl) (by kernel_rfl) (by kernel_rfl) (fun _ _ _ h => h) (Or.inl ⟨by rfl, ?y11⟩) (by assumption) ?r11
      case y11 => (intro w hSw; (try dsimp only at hSw); (try simp only [List.getElem_toArray, List.getElem_cons_zero, List.getElem_cons_succ]); go_simp; try with_reducible rfl)
      case r11 =>
      try simp only [Act.put, List.setIfInBounds_toArray, List.set_cons_zero, List.set_cons_succ, List.getElem_toArray, List.getElem_cons_zero, List.getElem_cons_succ]
      refine wpAnyH_take (i := 12) (v := .string st) rfl (by kernel_rfl) (by kernel_rfl) (by kernel_rfl) (fun _ _ _ h => h) (Or.inl ⟨by rfl, ?y12⟩) (by assumption) ?r12
      case y12 => (intro w hSw; (try dsimp only at hSw); (try simp only [List.getElem_toArray, List.getElem_cons_zero, List.getElem_cons_succ]); go_simp; try with_reducible rfl)
      case r12 =>
      try simp only [Act.put, List.setIfInBounds_toArray, List.set_cons_zero, List.set_cons_succ, List.getElem_toArray, List.getElem_cons_zero, List.getElem_cons_succ]
      refine wpAnyH_take (i := 13) (v := .int .i64 (k : Int)) rfl (by kernel_rfl) (by kernel_rfl) (by kernel_rfl) (fun _ _ _ h => h) (Or.inl ⟨by rfl, ?y13⟩) (by assumption) ?r13
      case y13 => (intro w hSw; (try dsimp only at hSw); (try simp only [List.getElem_toArray, List.getElem_cons_zero, List.getElem_cons_succ]); go_simp; try with_reducible rfl)
      case r13 =>
      try simp only [Act.put, List.setIfInBounds_toArray, List.set_cons_zero, List.set_cons_succ, List.getElem_toArray, List.getElem_cons_zero, List.getElem_cons_succ]
      refine wpAnyH_take (i := 14) (v := .int .i64 (2 * (k : Int))) rfl (by kernel_rfl) (by kernel_rfl) (by kernel_rfl) (fun _ _ _ h => h) (Or.inl ⟨by rfl, ?y14⟩) (by assumption) ?r14
      case y14 => (intro w hSw; (try dsimp only at hSw); (try simp only [List.getElem_toArray, List.getElem_cons_zero, List.getElem_cons_succ]); go_simp; try with_reducible rfl)
      case r14 =>
      try simp only [Act.put, List.setIfInBounds_toArray, List.set_cons_zero, List.set_cons_succ, List.getElem_toArray, List.getElem_cons_zero, List.getElem_cons_succ]
      refine wpAnyH_take (i := 15) (v := .int .i64 (2 * (k : Int) + 1)) rfl (by kernel_rfl) (by kernel_rfl) (by kernel_rfl) (fun _ _ _ h => h) (Or.inl ⟨by rfl, ?y15⟩) (by assumption) ?r15
      case y15 => (intro w hSw; (try dsimp only at hSw); (try simp only [List.getElem_toArray, List.getElem_cons_zero, List.getElem_cons_succ]); go_simp; try with_reducible rfl)
      case r15 =>
      try simp only [Act.put, List.setIfInBounds_toArray, List.set_cons_zero, List.set_cons_succ, List.getElem_toArray, List.getElem_cons_zero, List.getElem_cons_succ]
      refine wpAnyH_take (i := 16) (v := .int .u8 (hexd (x % 16))) rfl (by kernel_rfl) (by kernel_rfl) (by kernel_rfl) (fun _ _ _ h => h) (Or.inl ⟨by rfl, ?y16⟩) (by assumption) ?r16
      case y16 => (intro w hSw; exact exec_index _ _ 9 (.tmp 29) (.tmp 32) rfl (.string st) (.int .i64 (2 * (k : Int) + 1)) _ _ rfl rfl (HI1.out _))
      case r16 =>
      try simp only [Act.put, List.setIfInBounds_toArray, List.set_cons_zero, List.set_cons_succ, List.getElem_toArray, List.getElem_cons_zero, List.getElem_cons_succ]
      refine wpAnyH_take (i := 17) (v := .string ⟨#[48, 49, 50, 51, 52, 53, 54, 55, 56, 57, 97, 98, 99, 100, 101, 102]⟩) rfl (by kernel_rfl) (by kernel_rfl) (by kernel_rfl) (fun _ _ _ h => h) (Or.inl ⟨by rfl, ?y17⟩) (by assumption) ?r17
      case y17 => (intro w hSw; (try dsimp only at hSw); (try simp only [List.getElem_toArray, List.getElem_cons_zero, List.getElem_cons_succ]); go_simp; try with_reducible rfl)
      case r17 =>
      try simp only [Act.put, List.setIfInBounds_toArray, List.set_cons_zero, List.set_cons_succ, List.getElem_toArray, List.getElem_cons_zero, List.getElem_cons_succ]
      refine wpAnyH_take (i := 18) (v := .int .i64 (k : Int)) rfl (by kernel_rfl) (by kernel_rfl) (by kernel_rfl) (fun _ _ _ h => h) (Or.inl ⟨by rfl, ?y18⟩) (by assumption) ?r18
      case y18 => (intro w hSw; (try dsimp only at hSw); (try simp only [List.getElem_toArray, List.getElem_cons_zero, List.getElem_cons_succ]); go_simp; try with_reducible rfl)
      case r18 =>
      try simp only [Act.put, List.setIfInBounds_toArray, List.set_cons_zero, List.set_cons_succ, List.getElem_toArray, List.getElem_cons_zero, List.getElem_cons_succ]
      refine wpAnyH_take (i := 19) (v := .pointer (some ⟨w.heap.size, k, none⟩)) rfl (by kernel_rfl) (by kernel_rfl) (by kernel_rfl) (fun _ _ _ h => h) (Or.inl ⟨by rfl, ?y19⟩) (by assumption) ?r19
      case y19 => (intro w hSw; (try dsimp only at hSw); (try simp only [List.getElem_toArray, List.getElem_cons_zero, List.getElem_cons_succ]); go_simp; try with_reducible rfl)
      case r19 =>
      try simp only [Act.put, List.setIfInBounds_toArray, List.set_cons_zero, List.set_cons_succ, List.getElem_toArray, List.getElem_cons_zero, List.getElem_cons_succ]
      refine wpAnyH_take (i := 20) (v := .int .u8 x) rfl (by kernel_rfl) (by kernel_rfl) (by kernel_rfl) (fun _ _ _ h => h) (Or.inl ⟨by rfl, ?y20⟩) (by assumption) ?r20
      case y20 => (intro w hSw; (try dsimp only at hSw); (try simp only [List.getElem_toArray, List.getElem_cons_zero, List.getElem_cons_succ]); go_simp; try with_reducible rfl)
      case r20 =>
      try simp only [Act.put, List.setIfInBounds_toArray, List.set_cons_zero, List.set_cons_succ, List.getElem_toArray, List.getElem_cons_zero, List.getElem_cons_succ]
      refine wpAnyH_take (i := 21) (v := .int .u8 (x % 16)) rfl (by kernel_rfl) (by kernel_rfl) (by kernel_rfl) (fun _ _ _ h => h) (Or.inl ⟨by rfl, ?y21⟩) (by assumption) ?r21
      case y21 => (intro w hSw; (try dsimp only at hSw); (try simp only [List.getElem_toArray, List.getElem_cons_zero, List.getElem_cons_succ]); go_simp; try with_reducible rfl)
      case r21 =>
      try simp only [Act.put, List.setIfInBounds_toArray, List.set_cons_zero, List.set_cons_succ, List.getElem_toArray, List.getElem_cons_zero, List.getElem_cons_succ]
      refine wpAnyH_take (i := 22) (v := .int .u8 (hexd (x % 16))) rfl (by kernel_rfl) (by kernel_rfl) (by kernel_rfl) (fun _ _ _ h => h) (Or.inl ⟨by rfl, ?y22⟩) (by assumption) ?r22
      case y22 => (intro w hSw; exact exec_index _ _ 9 (.tmp 34) (.tmp 38) rfl (.string ⟨#[48, 49, 50, 51, 52, 53, 54, 55, 56, 57, 97, 98, 99, 100, 101, 102]⟩) (.int .u8 (x % 16)) _ _ rfl rfl (hex_index _ (by omega) (by omega) _))
      case r22 =>
      try simp only [Act.put, List.setIfInBounds_toArray, List.set_cons_zero, List.set_cons_succ, List.getElem_toArray, List.getElem_cons_zero, List.getElem_cons_succ]
      refine wpAnyH_take (i := 23) (v := .bool false) rfl (by kernel_rfl) (by kernel_rfl) (by kernel_rfl) (fun _ _ _ h => h) (Or.inl ⟨by rfl, ?y23⟩) (by assumption) ?r23
      case y23 => (intro w hSw; (try dsimp only at hSw); (try simp only [List.getElem_toArray, List.getElem_cons_zero, List.getElem_cons_succ]); go_simp; try with_reducible rfl)
      case r23 =>
      try simp only [Act.put, List.setIfInBounds_toArray, List.set_cons_zero, List.set_cons_succ, List.getElem_toArray, List.getElem_cons_zero, List.getElem_cons_succ]
      refine wpAnyH_take (i := 24) (v := .bool false) rfl (by kernel_rfl) (by kernel_rfl) (by kernel_rfl) (fun _ _ _ h => h) (Or.inl ⟨by rfl, ?y24⟩) (by assumption) ?r24
      case y24 => (intro w hSw; (try dsimp only at hSw); (try simp only [List.getElem_toArray, List.getElem_cons_zero, List.getElem_cons_succ]); go_simp; try with_reducible rfl)
      case r24 =>
      try simp only [Act.put, List.setIfInBounds_toArray, List.set_cons_zero, List.set_cons_succ, List.getElem_toArray, List.getElem_cons_zero, List.getElem_cons_succ]
      refine wpAnyH_done (by kernel_rfl) ?_ _
      have hT1 := hT.drew
      have hB1 := hB.turn (Turn.refl (fun _ => False) wr).drew id
      clear hT hB hc hc1 hHeld
      generalize wr.drew = w2 at hT1 hB1 ⊢
      go_wp2
      go_roundw
      case rel => exact ⟨k + 1, by omega, by go_num, hB1, hT1⟩
      case measure => simp [intOf]; omega
    · obtain rfl : k = 32 := by omega
      have hd : decide ((32 : Int) < 32) = false := by decide
      go_wp2_with fail
      rw [← HST.out]
      refine (read_any (hexB ks) _ (hexB_bytes ks HK.out) (by rw [hexB_len]; omega)).mono ?_
      rintro e w2 ⟨rfl, t2⟩
      rw [readK_hex ks HL.out HK.out, readOk_hex ks HL.out HK.out]
      have T2 := hT.trans t2 (fun _ _ => id)
      have hB2 := hB.turn t2 id
      clear hT hB t2
      have hi25 : (Tryd.prog.info? 25).map (·.size) = some (ks.map (Value.int .u8)).toArray.size := by rw [size25]; simp [hl]
      have h1c : (ks.map (Value.int .u8)).toArray.all (·.oneCell') = true := all_oneCell_toArray (ints_oneCell _ _)
      go_wp2_with (generalize hW : World.alloc w2 _ = W; refine wpList_store_mid (op := ⟨none, .store 25 (.tmp 6) (.tmp 45), _, _, _, _⟩) rfl 25 (.tmp 6) (.tmp 45) rfl w2.heap.size 0 (ks.map (Value.int .u8)).toArray rfl rfl (texts_there w2 W ks HL.out hW) hi25 h1c ?_)
      have t3 : Turn (fun _ => False) w2 W := by subst hW; exact (Turn.refl _ w2).alloc _
      have hth := texts_there w2 W ks HL.out hW
      have t4 := turn_setCells w2.heap.size (ks.map (Value.int .u8)) 0 W
      have hrg := World.rangeAt_setCells_same W w2.heap.size 0 (ks.map (Value.int .u8)) (by simpa using hth)
      have hs2 := T2.size
      have t5 := t3.trans t4 (fun q hq h => by omega)
      have T5 := T2.trans t5 (fun _ _ => id)
      have hB5 := hB2.turn t5 id
      clear hth t3 t4 t5 hB2 T2 hW
      generalize W.setCells w2.heap.size 0 (ks.map (Value.int .u8)) = w5 at hrg T5 hB5 ⊢
      generalize w2.heap.size = B at hrg ⊢
      refine (awake_any _ (HT.out.turn T5)).mono ?_
      rintro e w6 ⟨rfl, t6⟩
      have T6 := T5.trans t6 (fun _ _ => id)
      have hB6 := hB5.turn t6 id
      have hrg6 := rangeAt_turn hrg t6 id
      have hR6 := hB6.range
      have hsame : ∀ w, (binOp .eql 25 (.agg (ks.map (Value.int .u8)).toArray) (.agg (ks.map (Value.int .u8)).toArray)).run Tryd.prog w = .ok (.bool true) w := fun w => by
        have := run_same 25 32 Tryd.underlying25 ks ks hl hl w
        rw [this]; simp
      have hi25' : (Tryd.prog.info? 25).map (·.size) = some (ks.map (Value.int .u8)).length := by simpa using hi25
      clear T5 hB5 hrg t6 hB6
      have hi24' : (Tryd.prog.info? 24).map (·.size) = some (ks.map (Value.int .u8)).length := by simpa using hi24
      go_wp2_with (first | (refine wpList_load_want (op := ⟨some 52, .load 25 (.tmp 6), _, _, _, _⟩) rfl 25 (.tmp 6) rfl B 0 rfl (ks.map (Value.int .u8)) _ hrg6 Tryd.underlying25 rfl hi25' ?_) | (refine wpList_load_want (op := ⟨some 53, .load 24 (.tmp 1), _, _, _, _⟩) rfl 24 (.tmp 1) rfl w.heap.size 0 rfl (ks.map (Value.int .u8)) _ hR6 Tryd.underlying24 rfl hi24' ?_))
      go_ret
      exact ⟨rfl, T6⟩
end Go.Proofs.YtimajdbgeibalaaDoor
