/- Own contract: are a journal's sectors these? No statement is proved here. -/
import Derived.Test.YtakmkkgpkbpbkaaErrs
namespace Go.Proofs.Ytakmkkgpkbpbkaa
open Go.RowKit
set_option linter.unusedVariables false
set_option linter.unusedSimpArgs false

theorem exec_convert {P : Program} (ev : Operand → Value) (op : Oper) (t u : TypeId) (x : Operand) (ho : op.op = .convert t u x) (a v : Value) (w : World) (hx : ev x = a)
    (h : (convert t u a).run P w = .ok v w) : (execOp ev op).run P w = .ok (.value v) w := by
  unfold execOp
  simp only [ho, hx, Sem.run_bind, Sem.run_pure, Result.andThen_ok, h]
/-- A slice value that reads as 64 bytes, in a block of R. -/
def Told (w : World) (R : Nat → Prop) (v : Value) (xs : List Int) : Prop := ∃ g c, v = .slice (some ⟨g, 0, none⟩) 64 c ∧ 64 ≤ c ∧ R g ∧ g < w.heap.size ∧ w.rangeAt g 0 (secV xs)
theorem Told.turn {w w' : World} {R S : Nat → Prop} {v : Value} {xs : List Int} (h : Told w R v xs) (ht : Turn S w w') (hn : ∀ q, R q → q < w.heap.size → ¬ S q) : Told w' R v xs := by
  obtain ⟨g, c, rfl, hc, hR, hg, hr⟩ := h
  exact ⟨g, c, rfl, hc, hR, Nat.lt_of_lt_of_le hg ht.size, rangeAt_turn hr ht (hn g hR hg)⟩
theorem told_reads {w : World} {R : Nat → Prop} {v : Value} {xs : List Int} (h : Told w R v xs) (hl : xs.length = 64) : Reads w v xs := by
  obtain ⟨g, c, rfl, hc, hR, hg, hr⟩ := h
  exact .inr ⟨g, 0, c, by rw [hl], by rw [hl]; exact hc, fun i hi => hr i (.int .u8 (xs.getD i 0)) (by simp [secV, List.getD, hi])⟩
/-- The reference's sectors in memory. -/
def MAt (w : World) (R : Nat → Prop) (g : Nat) (us : List Value) (ms : List (List Int)) : Prop := ms.length ≤ us.length ∧ (∀ j, j < ms.length → w.cell? ⟨g, j, none⟩ = some (us.getD j undef)) ∧ ∀ j, j < ms.length → Told w R (us.getD j undef) (ms.getD j [])
theorem MAt.turn0 {w w' : World} {R : Nat → Prop} {g : Nat} {us : List Value} {ms : List (List Int)} (h : MAt w R g us ms) (T : Turn (fun _ => False) w w') : MAt w' R g us ms :=
  ⟨h.1, fun j hj => (T.cell (p := ⟨g, j, none⟩) (World.block_lt_of_cell? w _ (h.2.1 j hj)) id).trans (h.2.1 j hj), fun j hj => (h.2.2 j hj).turn T (fun _ _ _ => id)⟩
/-- Bytes are told apart by their texts. -/
theorem str_inj {xs ys : List Int} (hx : BytesOk xs) (hy : BytesOk ys) (h1 : (strOfNums xs).toList = (strOfNums ys).toList) : xs = ys := by
  rw [toList_nums, toList_nums] at h1
  induction xs generalizing ys with
  | nil =>
    cases ys with
    | nil => rfl
    | cons y ys => simp at h1
  | cons x xs ih =>
    cases ys with
    | nil => simp at h1
    | cons y ys =>
      simp only [List.map_cons, List.cons.injEq] at h1
      have hx0 := hx x (by simp)
      have hy0 := hy y (by simp)
      have e : x = y := by
        have h2 := congrArg UInt8.toNat h1.1
        simp only [UInt8.toNat_ofNat'] at h2
        omega
      rw [e, ih (fun z hz => hx z (by simp [hz])) (fun z hz => hy z (by simp [hz])) h1.2]

set_option maxHeartbeats 1600000 in
set_option maxRecDepth 100000 in
theorem same_any (w : World) (F R : Nat → Prop) (J D : Nat) (d : DiskM) (L : Nat) (C ms : List (List Int)) (n g m c : Nat) (us : List Value) (h : JC w F J D d L C n) (hm : MAt w R g us ms) (hml : ms.length = m) (hmC : C.length = m) (hm4 : m ≤ 5000)
    (hms : ∀ j, j < m → (ms.getD j []).length = 64 ∧ BytesOk (ms.getD j [])) :
    Calls Try.prog 15 #[.pointer (some ⟨J, 0, none⟩), .slice (some ⟨g, 0, none⟩) m c] w (fun e w' => e = .returned (.bool (decide (C = ms))) ∧ Turn (fun _ => False) w w') := by
  have HJ := Lib.hid h
  have HMA := Lib.hid hm
  have HML := Lib.hid hml
  have HMC := Lib.hid hmC
  have HMS := Lib.hid hms
  obtain ⟨b, hb⟩ : ∃ b, b = decide (C = ms) := ⟨_, rfl⟩
  rw [← hb]
  have HB := Lib.hid hb
  clear h hm hml hmC hms hb
  go_enter Try.func15, Try.ntmps15
  go_wp2_with fail
  go_loopw [5] (fun iv wr => ∃ i : Nat, i ≤ m ∧ iv = .int .i64 (i : Int) ∧ (∀ j, j < i → C.getD j [] = ms.getD j []) ∧ Turn (fun _ => False) w wr) (fun iv _ => (m - intOf iv).toNat)
  case atStart => exact ⟨0, Nat.zero_le _, rfl, fun j hj => by omega, Turn.refl _ _⟩
  case round =>
    obtain ⟨i, hi, rfl, heq, hT⟩ := hrel
    have HEQ := Lib.hid heq
    have HT := Lib.hid hT
    clear heq hT
    by_cases hlt : i < m
    · have hiI : (i : Int) < (m : Int) := by omega
      go_wp2_with fail
      refine (read_h wr F J D d L C n i (HJ.out.turn0 HT.out) (by rw [HMC.out]; exact hlt)).mono ?_
      rintro e w5 ⟨B, rfl, hB1, hB2, hBr, t5⟩
      have HT5 := Lib.hid (HT.out.trans t5 (fun _ _ => id))
      have hM5 := HMA.out.turn0 HT5.out
      have c5 := hM5.2.1 i (by rw [HML.out]; exact hlt)
      have ht5 := hM5.2.2 i (by rw [HML.out]; exact hlt)
      have hg5 : g < w5.heap.size := World.block_lt_of_cell? w5 _ c5
      have hlen := HMS.out i hlt
      obtain ⟨g9, ul9, huv⟩ : ∃ a c, us.getD i undef = .slice a 64 c := by obtain ⟨g9, c9, e9, _⟩ := ht5; exact ⟨_, _, e9⟩
      obtain ⟨ua, ul, uc, hu⟩ : ∃ a l c, us.getD i undef = .slice a l c := ⟨_, _, _, huv⟩
      rw [hu] at c5 ht5
      have hCi := (HJ.out.told i (by rw [HMC.out]; exact hlt)).2
      obtain ⟨s1, hs1⟩ : ∃ s1, strOfNums (C.getD i []) = s1 := ⟨_, rfl⟩
      obtain ⟨s2, hs2⟩ : ∃ s2, strOfNums (ms.getD i []) = s2 := ⟨_, rfl⟩
      have HCV1 := Lib.hid (show ∀ wq, Turn (fun _ => False) w5 wq → (convert 31 9 (.slice (some ⟨B, 0, none⟩) 64 64)).run Try.prog wq = .ok (.string s1) wq from fun wq Tq => by
        have htb : Told w5 (fun _ => True) (.slice (some ⟨B, 0, none⟩) 64 64) (C.getD i []) := ⟨B, 64, rfl, Nat.le_refl _, trivial, hB2, hBr⟩
        rw [← hs1]; exact (told_reads (htb.turn Tq (fun _ _ _ => id)) hCi.1).conv)
      have HCV2 := Lib.hid (show ∀ wq, Turn (fun _ => False) w5 wq → (convert 31 9 (.slice ua ul uc)).run Try.prog wq = .ok (.string s2) wq from fun wq Tq => by
        rw [← hs2]; exact (told_reads (ht5.turn Tq (fun _ _ _ => id)) hlen.1).conv)
      have HSS := Lib.hid (show s1.toList = s2.toList ↔ C.getD i [] = ms.getD i [] from ⟨fun h9 => str_inj hCi.2 hlen.2 (by rw [hs1, hs2]; exact h9), fun h9 => by rw [← hs1, ← hs2, h9]⟩)
      clear hM5 ht5 hlen huv hu hCi hs1 hs2 hBr t5 hB1 hB2
      by_cases hss : s1.toList = s2.toList
      · have HCI := Lib.hid (HSS.out.1 hss)
        go_wp2_with fail
        refine wp_region_held_drew (S := fun wq => Turn (fun _ => False) w5 wq) (by kernel_rfl) ((Turn.refl _ w5).drew) (fun hHeld => ?_)
        refine wpAnyH_take (i := 0) (v := .int .i64 0) rfl (by kernel_rfl) (by kernel_rfl) (by kernel_rfl) (fun _ _ _ h => h) (Or.inl ⟨by rfl, ?yp0⟩) (by assumption) ?rp0
        case yp0 => (intro wq hSw; (try simp only [List.getElem_toArray, List.getElem_cons_zero, List.getElem_cons_succ]); go_simp; (try with_reducible rfl); all_goals (try omega))
        case rp0 =>
        try simp only [Act.put, List.setIfInBounds_toArray, List.set_cons_zero, List.set_cons_succ, List.getElem_toArray, List.getElem_cons_zero, List.getElem_cons_succ]
        refine wpAnyH_take (i := 1) (v := .bool false) rfl (by kernel_rfl) (by kernel_rfl) (by kernel_rfl) (fun _ _ _ h => h) (Or.inl ⟨by rfl, ?yp1⟩) (by assumption) ?rp1
        case yp1 => (intro wq hSw; (try simp only [List.getElem_toArray, List.getElem_cons_zero, List.getElem_cons_succ]); go_simp; (try with_reducible rfl); all_goals (try omega))
        case rp1 =>
        try simp only [Act.put, List.setIfInBounds_toArray, List.set_cons_zero, List.set_cons_succ, List.getElem_toArray, List.getElem_cons_zero, List.getElem_cons_succ]
        refine wpAnyH_take (i := 2) (v := .bool false) rfl (by kernel_rfl) (by kernel_rfl) (by kernel_rfl) (fun _ _ _ h => h) (Or.inl ⟨by rfl, ?yp2⟩) (by assumption) ?rp2
        case yp2 => (intro wq hSw; (try simp only [List.getElem_toArray, List.getElem_cons_zero, List.getElem_cons_succ]); go_simp; (try with_reducible rfl); all_goals (try omega))
        case rp2 =>
        try simp only [Act.put, List.setIfInBounds_toArray, List.set_cons_zero, List.set_cons_succ, List.getElem_toArray, List.getElem_cons_zero, List.getElem_cons_succ]
        refine wpAnyH_take (i := 3) (v := .slice (some ⟨B, 0, none⟩) 64 64) rfl (by kernel_rfl) (by kernel_rfl) (by kernel_rfl) (fun _ _ _ h => h) (Or.inl ⟨by rfl, ?yp3⟩) (by assumption) ?rp3
        case yp3 => (intro wq hSw; (try simp only [List.getElem_toArray, List.getElem_cons_zero, List.getElem_cons_succ]); go_simp; (try with_reducible rfl); all_goals (try omega))
        case rp3 =>
        try simp only [Act.put, List.setIfInBounds_toArray, List.set_cons_zero, List.set_cons_succ, List.getElem_toArray, List.getElem_cons_zero, List.getElem_cons_succ]
        refine wpAnyH_take (i := 4) (v := .string s1) rfl (by kernel_rfl) (by kernel_rfl) (by kernel_rfl) (fun _ _ _ h => h) (Or.inl ⟨by rfl, ?yp4⟩) (by assumption) ?rp4
        case yp4 => (intro wq hSw; exact exec_convert _ _ 31 9 (.tmp 23) rfl _ _ _ rfl (HCV1.out wq hSw))
        case rp4 =>
        try simp only [Act.put, List.setIfInBounds_toArray, List.set_cons_zero, List.set_cons_succ, List.getElem_toArray, List.getElem_cons_zero, List.getElem_cons_succ]
        refine wpAnyH_take (i := 5) (v := .slice (some ⟨g, 0, none⟩) m c) rfl (by kernel_rfl) (by kernel_rfl) (by kernel_rfl) (fun _ _ _ h => h) (Or.inl ⟨by rfl, ?yp5⟩) (by assumption) ?rp5
        case yp5 => (intro wq hSw; (try simp only [List.getElem_toArray, List.getElem_cons_zero, List.getElem_cons_succ]); go_simp; (try with_reducible rfl); all_goals (try omega))
        case rp5 =>
        try simp only [Act.put, List.setIfInBounds_toArray, List.set_cons_zero, List.set_cons_succ, List.getElem_toArray, List.getElem_cons_zero, List.getElem_cons_succ]
        refine wpAnyH_take (i := 6) (v := .int .i64 (i : Int)) rfl (by kernel_rfl) (by kernel_rfl) (by kernel_rfl) (fun _ _ _ h => h) (Or.inl ⟨by rfl, ?yp6⟩) (by assumption) ?rp6
        case yp6 => (intro wq hSw; (try simp only [List.getElem_toArray, List.getElem_cons_zero, List.getElem_cons_succ]); go_simp; (try with_reducible rfl); all_goals (try omega))
        case rp6 =>
        try simp only [Act.put, List.setIfInBounds_toArray, List.set_cons_zero, List.set_cons_succ, List.getElem_toArray, List.getElem_cons_zero, List.getElem_cons_succ]
        refine wpAnyH_take (i := 7) (v := .pointer (some ⟨g, i, none⟩)) rfl (by kernel_rfl) (by kernel_rfl) (by kernel_rfl) (fun _ _ _ h => h) (Or.inl ⟨by rfl, ?yp7⟩) (by assumption) ?rp7
        case yp7 => (intro wq hSw; (try simp only [List.getElem_toArray, List.getElem_cons_zero, List.getElem_cons_succ]); go_simp; (try with_reducible rfl); all_goals (try omega))
        case rp7 =>
        try simp only [Act.put, List.setIfInBounds_toArray, List.set_cons_zero, List.set_cons_succ, List.getElem_toArray, List.getElem_cons_zero, List.getElem_cons_succ]
        refine wpAnyH_take (i := 8) (v := .slice ua ul uc) rfl (by kernel_rfl) (by kernel_rfl) (by kernel_rfl) (fun _ _ _ h => h) (Or.inl ⟨by rfl, ?yp8⟩) (by assumption) ?rp8
        case yp8 => (intro wq hSw; have z1 := (hSw.cell (p := ⟨g, i, none⟩) hg5 id).trans c5; (try simp only [List.getElem_toArray, List.getElem_cons_zero, List.getElem_cons_succ]); go_simp; (try with_reducible rfl); all_goals (try omega))
        case rp8 =>
        try simp only [Act.put, List.setIfInBounds_toArray, List.set_cons_zero, List.set_cons_succ, List.getElem_toArray, List.getElem_cons_zero, List.getElem_cons_succ]
        refine wpAnyH_take (i := 9) (v := .string s2) rfl (by kernel_rfl) (by kernel_rfl) (by kernel_rfl) (fun _ _ _ h => h) (Or.inl ⟨by rfl, ?yp9⟩) (by assumption) ?rp9
        case yp9 => (intro wq hSw; exact exec_convert _ _ 31 9 (.tmp 28) rfl _ _ _ rfl (HCV2.out wq hSw))
        case rp9 =>
        try simp only [Act.put, List.setIfInBounds_toArray, List.set_cons_zero, List.set_cons_succ, List.getElem_toArray, List.getElem_cons_zero, List.getElem_cons_succ]
        refine wpAnyH_take (i := 10) (v := .bool false) rfl (by kernel_rfl) (by kernel_rfl) (by kernel_rfl) (fun _ _ _ h => h) (Or.inl ⟨by rfl, ?yp10⟩) (by assumption) ?rp10
        case yp10 => (intro wq hSw; (try simp only [List.getElem_toArray, List.getElem_cons_zero, List.getElem_cons_succ]); go_simp; (try with_reducible rfl); all_goals (try omega))
        case rp10 =>
        try simp only [Act.put, List.setIfInBounds_toArray, List.set_cons_zero, List.set_cons_succ, List.getElem_toArray, List.getElem_cons_zero, List.getElem_cons_succ]
        refine wpAnyH_take (i := 11) (v := .bool false) rfl (by kernel_rfl) (by kernel_rfl) (by kernel_rfl) (fun _ _ _ h => h) (Or.inl ⟨by rfl, ?yp11⟩) (by assumption) ?rp11
        case yp11 => (intro wq hSw; (try simp only [List.getElem_toArray, List.getElem_cons_zero, List.getElem_cons_succ]); go_simp; (try with_reducible rfl); all_goals (try omega))
        case rp11 =>
        try simp only [Act.put, List.setIfInBounds_toArray, List.set_cons_zero, List.set_cons_succ, List.getElem_toArray, List.getElem_cons_zero, List.getElem_cons_succ]
        refine wpAnyH_done (by kernel_rfl) ?_ _
        clear hHeld
        go_wp2_with fail
        go_roundw
        case measure => simp [intOf]; omega
        case rel => exact ⟨i + 1, by omega, by simp, fun j hj => by
          by_cases e9 : j = i
          · subst e9; exact HCI.out
          · exact HEQ.out j (by omega), HT5.out.drew⟩
      · have hne : ¬ (C = ms) := fun h9 => hss (HSS.out.2 (by rw [h9]))
        have HBF := Lib.hid (show b = false from HB.out.trans (decide_eq_false hne))
        clear hne
        go_wp2_with fail
        refine wp_region_held_drew (S := fun wq => Turn (fun _ => False) w5 wq) (by kernel_rfl) ((Turn.refl _ w5).drew) (fun hHeld => ?_)
        refine wpAnyH_take (i := 0) (v := .int .i64 0) rfl (by kernel_rfl) (by kernel_rfl) (by kernel_rfl) (fun _ _ _ h => h) (Or.inl ⟨by rfl, ?yq0⟩) (by assumption) ?rq0
        case yq0 => (intro wq hSw; (try simp only [List.getElem_toArray, List.getElem_cons_zero, List.getElem_cons_succ]); go_simp; (try with_reducible rfl); all_goals (try omega))
        case rq0 =>
        try simp only [Act.put, List.setIfInBounds_toArray, List.set_cons_zero, List.set_cons_succ, List.getElem_toArray, List.getElem_cons_zero, List.getElem_cons_succ]
        refine wpAnyH_take (i := 1) (v := .bool false) rfl (by kernel_rfl) (by kernel_rfl) (by kernel_rfl) (fun _ _ _ h => h) (Or.inl ⟨by rfl, ?yq1⟩) (by assumption) ?rq1
        case yq1 => (intro wq hSw; (try simp only [List.getElem_toArray, List.getElem_cons_zero, List.getElem_cons_succ]); go_simp; (try with_reducible rfl); all_goals (try omega))
        case rq1 =>
        try simp only [Act.put, List.setIfInBounds_toArray, List.set_cons_zero, List.set_cons_succ, List.getElem_toArray, List.getElem_cons_zero, List.getElem_cons_succ]
        refine wpAnyH_take (i := 2) (v := .bool false) rfl (by kernel_rfl) (by kernel_rfl) (by kernel_rfl) (fun _ _ _ h => h) (Or.inl ⟨by rfl, ?yq2⟩) (by assumption) ?rq2
        case yq2 => (intro wq hSw; (try simp only [List.getElem_toArray, List.getElem_cons_zero, List.getElem_cons_succ]); go_simp; (try with_reducible rfl); all_goals (try omega))
        case rq2 =>
        try simp only [Act.put, List.setIfInBounds_toArray, List.set_cons_zero, List.set_cons_succ, List.getElem_toArray, List.getElem_cons_zero, List.getElem_cons_succ]
        refine wpAnyH_take (i := 3) (v := .slice (some ⟨B, 0, none⟩) 64 64) rfl (by kernel_rfl) (by kernel_rfl) (by kernel_rfl) (fun _ _ _ h => h) (Or.inl ⟨by rfl, ?yq3⟩) (by assumption) ?rq3
        case yq3 => (intro wq hSw; (try simp only [List.getElem_toArray, List.getElem_cons_zero, List.getElem_cons_succ]); go_simp; (try with_reducible rfl); all_goals (try omega))
        case rq3 =>
        try simp only [Act.put, List.setIfInBounds_toArray, List.set_cons_zero, List.set_cons_succ, List.getElem_toArray, List.getElem_cons_zero, List.getElem_cons_succ]
        refine wpAnyH_take (i := 4) (v := .string s1) rfl (by kernel_rfl) (by kernel_rfl) (by kernel_rfl) (fun _ _ _ h => h) (Or.inl ⟨by rfl, ?yq4⟩) (by assumption) ?rq4
        case yq4 => (intro wq hSw; exact exec_convert _ _ 31 9 (.tmp 23) rfl _ _ _ rfl (HCV1.out wq hSw))
        case rq4 =>
        try simp only [Act.put, List.setIfInBounds_toArray, List.set_cons_zero, List.set_cons_succ, List.getElem_toArray, List.getElem_cons_zero, List.getElem_cons_succ]
        refine wpAnyH_take (i := 5) (v := .slice (some ⟨g, 0, none⟩) m c) rfl (by kernel_rfl) (by kernel_rfl) (by kernel_rfl) (fun _ _ _ h => h) (Or.inl ⟨by rfl, ?yq5⟩) (by assumption) ?rq5
        case yq5 => (intro wq hSw; (try simp only [List.getElem_toArray, List.getElem_cons_zero, List.getElem_cons_succ]); go_simp; (try with_reducible rfl); all_goals (try omega))
        case rq5 =>
        try simp only [Act.put, List.setIfInBounds_toArray, List.set_cons_zero, List.set_cons_succ, List.getElem_toArray, List.getElem_cons_zero, List.getElem_cons_succ]
        refine wpAnyH_take (i := 6) (v := .int .i64 (i : Int)) rfl (by kernel_rfl) (by kernel_rfl) (by kernel_rfl) (fun _ _ _ h => h) (Or.inl ⟨by rfl, ?yq6⟩) (by assumption) ?rq6
        case yq6 => (intro wq hSw; (try simp only [List.getElem_toArray, List.getElem_cons_zero, List.getElem_cons_succ]); go_simp; (try with_reducible rfl); all_goals (try omega))
        case rq6 =>
        try simp only [Act.put, List.setIfInBounds_toArray, List.set_cons_zero, List.set_cons_succ, List.getElem_toArray, List.getElem_cons_zero, List.getElem_cons_succ]
        refine wpAnyH_take (i := 7) (v := .pointer (some ⟨g, i, none⟩)) rfl (by kernel_rfl) (by kernel_rfl) (by kernel_rfl) (fun _ _ _ h => h) (Or.inl ⟨by rfl, ?yq7⟩) (by assumption) ?rq7
        case yq7 => (intro wq hSw; (try simp only [List.getElem_toArray, List.getElem_cons_zero, List.getElem_cons_succ]); go_simp; (try with_reducible rfl); all_goals (try omega))
        case rq7 =>
        try simp only [Act.put, List.setIfInBounds_toArray, List.set_cons_zero, List.set_cons_succ, List.getElem_toArray, List.getElem_cons_zero, List.getElem_cons_succ]
        refine wpAnyH_take (i := 8) (v := .slice ua ul uc) rfl (by kernel_rfl) (by kernel_rfl) (by kernel_rfl) (fun _ _ _ h => h) (Or.inl ⟨by rfl, ?yq8⟩) (by assumption) ?rq8
        case yq8 => (intro wq hSw; have z1 := (hSw.cell (p := ⟨g, i, none⟩) hg5 id).trans c5; (try simp only [List.getElem_toArray, List.getElem_cons_zero, List.getElem_cons_succ]); go_simp; (try with_reducible rfl); all_goals (try omega))
        case rq8 =>
        try simp only [Act.put, List.setIfInBounds_toArray, List.set_cons_zero, List.set_cons_succ, List.getElem_toArray, List.getElem_cons_zero, List.getElem_cons_succ]
        refine wpAnyH_take (i := 9) (v := .string s2) rfl (by kernel_rfl) (by kernel_rfl) (by kernel_rfl) (fun _ _ _ h => h) (Or.inl ⟨by rfl, ?yq9⟩) (by assumption) ?rq9
        case yq9 => (intro wq hSw; exact exec_convert _ _ 31 9 (.tmp 28) rfl _ _ _ rfl (HCV2.out wq hSw))
        case rq9 =>
        try simp only [Act.put, List.setIfInBounds_toArray, List.set_cons_zero, List.set_cons_succ, List.getElem_toArray, List.getElem_cons_zero, List.getElem_cons_succ]
        refine wpAnyH_take (i := 10) (v := .bool true) rfl (by kernel_rfl) (by kernel_rfl) (by kernel_rfl) (fun _ _ _ h => h) (Or.inl ⟨by rfl, ?yq10⟩) (by assumption) ?rq10
        case yq10 => (intro wq hSw; (try simp only [List.getElem_toArray, List.getElem_cons_zero, List.getElem_cons_succ]); go_simp; (try with_reducible rfl); all_goals (try omega))
        case rq10 =>
        try simp only [Act.put, List.setIfInBounds_toArray, List.set_cons_zero, List.set_cons_succ, List.getElem_toArray, List.getElem_cons_zero, List.getElem_cons_succ]
        refine wpAnyH_take (i := 11) (v := .bool true) rfl (by kernel_rfl) (by kernel_rfl) (by kernel_rfl) (fun _ _ _ h => h) (Or.inl ⟨by rfl, ?yq11⟩) (by assumption) ?rq11
        case yq11 => (intro wq hSw; (try simp only [List.getElem_toArray, List.getElem_cons_zero, List.getElem_cons_succ]); go_simp; (try with_reducible rfl); all_goals (try omega))
        case rq11 =>
        try simp only [Act.put, List.setIfInBounds_toArray, List.set_cons_zero, List.set_cons_succ, List.getElem_toArray, List.getElem_cons_zero, List.getElem_cons_succ]
        refine wpAnyH_done (by kernel_rfl) ?_ _
        clear hHeld
        go_wp2_with fail
        go_ret
        exact ⟨by rw [HBF.out]; rfl, HT5.out.drew⟩
    · obtain rfl : i = m := by omega
      have hiI : ¬ ((i : Int) < (i : Int)) := by omega
      have HBT := Lib.hid (show b = true from HB.out.trans (decide_eq_true (by
        apply List.ext_getElem?
        intro j
        by_cases hj : j < i
        · have := HEQ.out j hj
          simpa [List.getD, show j < C.length by rw [HMC.out]; exact hj, show j < ms.length by rw [HML.out]; exact hj] using this
        · rw [List.getElem?_eq_none (by rw [HMC.out]; omega), List.getElem?_eq_none (by rw [HML.out]; omega)])))
      go_wp2_with fail
      refine (sectors_h wr F J D d L C n (HJ.out.turn0 HT.out)).mono ?_
      rintro e w5 ⟨rfl, rfl⟩
      rw [HMC.out]
      go_wp2_with fail
      go_ret
      exact ⟨by rw [HBT.out]; rfl, HT.out⟩
end Go.Proofs.Ytakmkkgpkbpbkaa
