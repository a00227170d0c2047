/- Own contracts: rule 8. No statement is proved here. -/
import Derived.Test.YtifhnidcodhoeaaBra0
namespace Go.Proofs.Ytifhnidcodhoeaa
set_option maxRecDepth 100000
open Go.RowKit
set_option linter.unusedVariables false
set_option linter.unusedSimpArgs false


def regB (l : List El) (id : Int) : Bool := l.any fun y => y.par == id && y.kind == 2
def othB (l : List El) (id : Int) : Bool := l.any fun y => y.par == id && y.kind != 2
def b8 (l : List El) (x : El) : Bool := regB l x.id && othB l x.id
theorem regB_snoc (l : List El) (y : El) (id : Int) : regB (l ++ [y]) id = (regB l id || (y.par == id && y.kind == 2)) := by simp [regB, List.any_append]
theorem othB_snoc (l : List El) (y : El) (id : Int) : othB (l ++ [y]) id = (othB l id || (y.par == id && y.kind != 2)) := by simp [othB, List.any_append]
set_option maxHeartbeats 4000000 in
theorem breaks_8 (w : World) (v : Value) (l : List El) (x : El) (hv : RowV w v l) (hb : l.length ≤ 1000) : Calls Try.prog 18 #[v, .agg x.vals.toArray, .int .i64 8] w fun r w' => r = .returned (.bool (b8 l x)) ∧ Turn (fun _ => False) w w' := by
  obtain ⟨la, lc, rfl⟩ := hv.form
  obtain ⟨n, hn⟩ : ∃ n, l.length = n := ⟨_, rfl⟩
  rw [hn] at hv hb
  simp only [hn]
  have HN := Lib.hid hn
  clear hn
  have hbx := box_alloc w 35 x.vals
  obtain ⟨X, hX⟩ : ∃ X, w.heap.size = X := ⟨_, rfl⟩
  obtain ⟨w1, hw1⟩ : ∃ w1, w.alloc (.cells x.vals.toArray 35) = w1 := ⟨_, rfl⟩
  rw [hw1] at hbx
  have hr := hbx.range
  rw [hX] at hr
  have T1 := Lib.hid hbx.turn
  have HR := Lib.hid hr
  have HV1 := Lib.hid (hv.turn hbx.turn (fun _ _ => id))
  clear hbx hr hv
  go_enter Try.func18, Try.ntmps18
  go_wp2_with fail
  go_loopw [15, 16, 17] (fun rv ov iv wr => ∃ k : Nat, k ≤ n ∧ iv = .int .i64 (k : Int) ∧ rv = .bool (regB (l.take k) x.id) ∧ ov = .bool (othB (l.take k) x.id) ∧ Turn (fun _ => False) w1 wr) (fun _ _ iv _ => n - (intOf iv).toNat)
  case atStart => exact ⟨0, Nat.zero_le _, rfl, rfl, rfl, Turn.refl _ _⟩
  case round =>
    obtain ⟨k, hk, rfl, rfl, rfl, htr⟩ := hrel
    obtain ⟨R, hRB⟩ : ∃ R, regB (l.take k) x.id = R := ⟨_, rfl⟩
    obtain ⟨O, hOB⟩ : ∃ O, othB (l.take k) x.id = O := ⟨_, rfl⟩
    rw [hRB, hOB]
    have HRB := Lib.hid hRB
    have HOB := Lib.hid hOB
    clear hRB hOB
    by_cases hlt : k < n
    · have hbef := True.intro
      have hsn := take_snoc l k (by rw [HN.out]; exact hlt)
      obtain ⟨b, o, rfl, hc, hs1⟩ := (HV1.out.turn htr (fun _ _ => id)).one HN.out k hlt
      have hs2 := rangeAt_turn HR.out htr id
      have gi : (0 : Int) ≤ (k : Int) ∧ (k : Int) < (n : Int) := by omega
      have dk : decide ((k : Int) < (n : Int)) = true := decide_eq_true (by omega)
      obtain ⟨y, hy⟩ : ∃ y, l.getD k el0 = y := ⟨_, rfl⟩
      rw [hy] at hs1
      have HY := Lib.hid hy
      have HS := Lib.hid (show wr.rangeAt b (o + k * 10) y.vals ∧ wr.rangeAt X 0 x.vals from ⟨hs1, hs2⟩)
      have HTR := Lib.hid htr
      have HB := Lib.hid hbef
      clear hy hs1 hs2 htr hbef
      rw [HY.out] at hsn
      have HSN := Lib.hid hsn
      clear hsn
      cases q0 : (y.par == x.id)
      · have HQ := Lib.hid q0
        go_wp2_with fail
        refine wp_region_held_drew (S := fun wq => wq.rangeAt b (o + k * 10) y.vals ∧ wq.rangeAt X 0 x.vals) (by kernel_rfl) HS.out (fun hHeld => ?_)
        refine wpAnyH_take (i := 0) (v := .slice (some ⟨b, o, none⟩) n lc) rfl (by kernel_rfl) (by kernel_rfl) (by kernel_rfl) (fun _ _ _ h => h) (Or.inl ⟨by rfl, ?yapfalse1⟩) (by assumption) ?rapfalse1
        case yapfalse1 => (intro wq hSw; (try simp only [List.getElem_toArray, List.getElem_cons_zero, List.getElem_cons_succ]); go_simp; (try with_reducible rfl); all_goals (try omega))
        case rapfalse1 =>
        try simp only [Act.put, List.setIfInBounds_toArray, List.set_cons_zero, List.set_cons_succ, List.getElem_toArray, List.getElem_cons_zero, List.getElem_cons_succ]
        refine wpAnyH_take (i := 1) (v := .int .i64 ((k : Int))) rfl (by kernel_rfl) (by kernel_rfl) (by kernel_rfl) (fun _ _ _ h => h) (Or.inl ⟨by rfl, ?yapfalse2⟩) (by assumption) ?rapfalse2
        case yapfalse2 => (intro wq hSw; (try simp only [List.getElem_toArray, List.getElem_cons_zero, List.getElem_cons_succ]); go_simp; (try with_reducible rfl); all_goals (try omega))
        case rapfalse2 =>
        try simp only [Act.put, List.setIfInBounds_toArray, List.set_cons_zero, List.set_cons_succ, List.getElem_toArray, List.getElem_cons_zero, List.getElem_cons_succ]
        refine wpAnyH_take (i := 2) (v := .pointer (some ⟨b, o + k * 10, none⟩)) rfl (by kernel_rfl) (by kernel_rfl) (by kernel_rfl) (fun _ _ _ h => h) (Or.inl ⟨by rfl, ?yapfalse3⟩) (by assumption) ?rapfalse3
        case yapfalse3 => (intro wq hSw; (try simp only [List.getElem_toArray, List.getElem_cons_zero, List.getElem_cons_succ]); go_simp; (try with_reducible rfl); all_goals (try omega))
        case rapfalse3 =>
        try simp only [Act.put, List.setIfInBounds_toArray, List.set_cons_zero, List.set_cons_succ, List.getElem_toArray, List.getElem_cons_zero, List.getElem_cons_succ]
        refine wpAnyH_take (i := 3) (v := .pointer (some ⟨b, o + k * 10 + 2, none⟩)) rfl (by kernel_rfl) (by kernel_rfl) (by kernel_rfl) (fun _ _ _ h => h) (Or.inl ⟨by rfl, ?yapfalse4⟩) (by assumption) ?rapfalse4
        case yapfalse4 => (intro wq hSw; (try simp only [List.getElem_toArray, List.getElem_cons_zero, List.getElem_cons_succ]); go_simp; (try with_reducible rfl); all_goals (try omega))
        case rapfalse4 =>
        try simp only [Act.put, List.setIfInBounds_toArray, List.set_cons_zero, List.set_cons_succ, List.getElem_toArray, List.getElem_cons_zero, List.getElem_cons_succ]
        refine wpAnyH_take (i := 4) (v := .int .i64 y.par) rfl (by kernel_rfl) (by kernel_rfl) (by kernel_rfl) (fun _ _ _ h => h) (Or.inl ⟨by rfl, ?yapfalse5⟩) (by assumption) ?rapfalse5
        case yapfalse5 => (intro wq hSw; have cc := (cellsE hSw.1).c2; (try simp only [Nat.zero_add, Nat.add_zero] at cc); (try simp only [List.getElem_toArray, List.getElem_cons_zero, List.getElem_cons_succ]); go_simp; (try with_reducible rfl); all_goals (try omega))
        case rapfalse5 =>
        try simp only [Act.put, List.setIfInBounds_toArray, List.set_cons_zero, List.set_cons_succ, List.getElem_toArray, List.getElem_cons_zero, List.getElem_cons_succ]
        refine wpAnyH_take (i := 5) (v := .pointer (some ⟨X, 0, none⟩)) rfl (by kernel_rfl) (by kernel_rfl) (by kernel_rfl) (fun _ _ _ h => h) (Or.inl ⟨by rfl, ?yapfalse6⟩) (by assumption) ?rapfalse6
        case yapfalse6 => (intro wq hSw; (try simp only [List.getElem_toArray, List.getElem_cons_zero, List.getElem_cons_succ]); go_simp; (try with_reducible rfl); all_goals (try omega))
        case rapfalse6 =>
        try simp only [Act.put, List.setIfInBounds_toArray, List.set_cons_zero, List.set_cons_succ, List.getElem_toArray, List.getElem_cons_zero, List.getElem_cons_succ]
        refine wpAnyH_take (i := 6) (v := .int .i64 x.id) rfl (by kernel_rfl) (by kernel_rfl) (by kernel_rfl) (fun _ _ _ h => h) (Or.inl ⟨by rfl, ?yapfalse7⟩) (by assumption) ?rapfalse7
        case yapfalse7 => (intro wq hSw; have cc := (cellsE hSw.2).c0; (try simp only [Nat.zero_add, Nat.add_zero] at cc); (try simp only [List.getElem_toArray, List.getElem_cons_zero, List.getElem_cons_succ]); go_simp; (try with_reducible rfl); all_goals (try omega))
        case rapfalse7 =>
        try simp only [Act.put, List.setIfInBounds_toArray, List.set_cons_zero, List.set_cons_succ, List.getElem_toArray, List.getElem_cons_zero, List.getElem_cons_succ]
        refine wpAnyH_take (i := 7) (v := .bool false) rfl (by kernel_rfl) (by kernel_rfl) (by kernel_rfl) (fun _ _ _ h => h) (Or.inl ⟨by rfl, ?yapfalse8⟩) (by assumption) ?rapfalse8
        case yapfalse8 => (intro wq hSw; (try simp only [List.getElem_toArray, List.getElem_cons_zero, List.getElem_cons_succ]); go_simp; (try with_reducible rfl); all_goals (try omega))
        case rapfalse8 =>
        try simp only [Act.put, List.setIfInBounds_toArray, List.set_cons_zero, List.set_cons_succ, List.getElem_toArray, List.getElem_cons_zero, List.getElem_cons_succ]
        refine wpAnyH_done (by kernel_rfl) ?_ _
        clear hHeld
        clear q0
        go_wp2_with fail
        go_roundw
        case rel => exact ⟨k + 1, by omega, by go_num, congrArg Value.bool (by rw [HSN.out, regB_snoc, HRB.out, HQ.out, Bool.false_and, Bool.or_false]), congrArg Value.bool (by rw [HSN.out, othB_snoc, HOB.out, HQ.out, Bool.false_and, Bool.or_false]), HTR.out.drew⟩
        case measure => simp [intOf]; omega
      · have HQ := Lib.hid q0
        go_wp2_with fail
        refine wp_region_held_drew (S := fun wq => wq.rangeAt b (o + k * 10) y.vals ∧ wq.rangeAt X 0 x.vals) (by kernel_rfl) HS.out (fun hHeld => ?_)
        refine wpAnyH_take (i := 0) (v := .slice (some ⟨b, o, none⟩) n lc) rfl (by kernel_rfl) (by kernel_rfl) (by kernel_rfl) (fun _ _ _ h => h) (Or.inl ⟨by rfl, ?yaptrue1⟩) (by assumption) ?raptrue1
        case yaptrue1 => (intro wq hSw; (try simp only [List.getElem_toArray, List.getElem_cons_zero, List.getElem_cons_succ]); go_simp; (try with_reducible rfl); all_goals (try omega))
        case raptrue1 =>
        try simp only [Act.put, List.setIfInBounds_toArray, List.set_cons_zero, List.set_cons_succ, List.getElem_toArray, List.getElem_cons_zero, List.getElem_cons_succ]
        refine wpAnyH_take (i := 1) (v := .int .i64 ((k : Int))) rfl (by kernel_rfl) (by kernel_rfl) (by kernel_rfl) (fun _ _ _ h => h) (Or.inl ⟨by rfl, ?yaptrue2⟩) (by assumption) ?raptrue2
        case yaptrue2 => (intro wq hSw; (try simp only [List.getElem_toArray, List.getElem_cons_zero, List.getElem_cons_succ]); go_simp; (try with_reducible rfl); all_goals (try omega))
        case raptrue2 =>
        try simp only [Act.put, List.setIfInBounds_toArray, List.set_cons_zero, List.set_cons_succ, List.getElem_toArray, List.getElem_cons_zero, List.getElem_cons_succ]
        refine wpAnyH_take (i := 2) (v := .pointer (some ⟨b, o + k * 10, none⟩)) rfl (by kernel_rfl) (by kernel_rfl) (by kernel_rfl) (fun _ _ _ h => h) (Or.inl ⟨by rfl, ?yaptrue3⟩) (by assumption) ?raptrue3
        case yaptrue3 => (intro wq hSw; (try simp only [List.getElem_toArray, List.getElem_cons_zero, List.getElem_cons_succ]); go_simp; (try with_reducible rfl); all_goals (try omega))
        case raptrue3 =>
        try simp only [Act.put, List.setIfInBounds_toArray, List.set_cons_zero, List.set_cons_succ, List.getElem_toArray, List.getElem_cons_zero, List.getElem_cons_succ]
        refine wpAnyH_take (i := 3) (v := .pointer (some ⟨b, o + k * 10 + 2, none⟩)) rfl (by kernel_rfl) (by kernel_rfl) (by kernel_rfl) (fun _ _ _ h => h) (Or.inl ⟨by rfl, ?yaptrue4⟩) (by assumption) ?raptrue4
        case yaptrue4 => (intro wq hSw; (try simp only [List.getElem_toArray, List.getElem_cons_zero, List.getElem_cons_succ]); go_simp; (try with_reducible rfl); all_goals (try omega))
        case raptrue4 =>
        try simp only [Act.put, List.setIfInBounds_toArray, List.set_cons_zero, List.set_cons_succ, List.getElem_toArray, List.getElem_cons_zero, List.getElem_cons_succ]
        refine wpAnyH_take (i := 4) (v := .int .i64 y.par) rfl (by kernel_rfl) (by kernel_rfl) (by kernel_rfl) (fun _ _ _ h => h) (Or.inl ⟨by rfl, ?yaptrue5⟩) (by assumption) ?raptrue5
        case yaptrue5 => (intro wq hSw; have cc := (cellsE hSw.1).c2; (try simp only [Nat.zero_add, Nat.add_zero] at cc); (try simp only [List.getElem_toArray, List.getElem_cons_zero, List.getElem_cons_succ]); go_simp; (try with_reducible rfl); all_goals (try omega))
        case raptrue5 =>
        try simp only [Act.put, List.setIfInBounds_toArray, List.set_cons_zero, List.set_cons_succ, List.getElem_toArray, List.getElem_cons_zero, List.getElem_cons_succ]
        refine wpAnyH_take (i := 5) (v := .pointer (some ⟨X, 0, none⟩)) rfl (by kernel_rfl) (by kernel_rfl) (by kernel_rfl) (fun _ _ _ h => h) (Or.inl ⟨by rfl, ?yaptrue6⟩) (by assumption) ?raptrue6
        case yaptrue6 => (intro wq hSw; (try simp only [List.getElem_toArray, List.getElem_cons_zero, List.getElem_cons_succ]); go_simp; (try with_reducible rfl); all_goals (try omega))
        case raptrue6 =>
        try simp only [Act.put, List.setIfInBounds_toArray, List.set_cons_zero, List.set_cons_succ, List.getElem_toArray, List.getElem_cons_zero, List.getElem_cons_succ]
        refine wpAnyH_take (i := 6) (v := .int .i64 x.id) rfl (by kernel_rfl) (by kernel_rfl) (by kernel_rfl) (fun _ _ _ h => h) (Or.inl ⟨by rfl, ?yaptrue7⟩) (by assumption) ?raptrue7
        case yaptrue7 => (intro wq hSw; have cc := (cellsE hSw.2).c0; (try simp only [Nat.zero_add, Nat.add_zero] at cc); (try simp only [List.getElem_toArray, List.getElem_cons_zero, List.getElem_cons_succ]); go_simp; (try with_reducible rfl); all_goals (try omega))
        case raptrue7 =>
        try simp only [Act.put, List.setIfInBounds_toArray, List.set_cons_zero, List.set_cons_succ, List.getElem_toArray, List.getElem_cons_zero, List.getElem_cons_succ]
        refine wpAnyH_take (i := 7) (v := .bool true) rfl (by kernel_rfl) (by kernel_rfl) (by kernel_rfl) (fun _ _ _ h => h) (Or.inl ⟨by rfl, ?yaptrue8⟩) (by assumption) ?raptrue8
        case yaptrue8 => (intro wq hSw; (try simp only [List.getElem_toArray, List.getElem_cons_zero, List.getElem_cons_succ]); go_simp; (try with_reducible rfl); all_goals (try omega))
        case raptrue8 =>
        try simp only [Act.put, List.setIfInBounds_toArray, List.set_cons_zero, List.set_cons_succ, List.getElem_toArray, List.getElem_cons_zero, List.getElem_cons_succ]
        refine wpAnyH_done (by kernel_rfl) ?_ _
        clear hHeld
        clear q0
        have c1 := (cellsE HS.out.1).c1
        cases hkd : (y.kind == 2)
        · have HKD := Lib.hid hkd
          have hkn : (y.kind != 2) = true := by simpa using hkd
          have HKN := Lib.hid hkn
          cases R <;> cases O
          all_goals go_wp2_with fail
          all_goals go_roundw
          all_goals first
            | exact ⟨k + 1, by omega, by go_num, congrArg Value.bool (by rw [HSN.out, regB_snoc, HRB.out, HQ.out, HKD.out]; rfl), congrArg Value.bool (by rw [HSN.out, othB_snoc, HOB.out, HQ.out, HKN.out]; rfl), HTR.out.drew⟩
            | (simp [intOf]; omega)
        · have HKD := Lib.hid hkd
          have hkn : (y.kind != 2) = false := by simpa using hkd
          have HKN := Lib.hid hkn
          cases R <;> cases O
          all_goals go_wp2_with fail
          all_goals go_roundw
          all_goals first
            | exact ⟨k + 1, by omega, by go_num, congrArg Value.bool (by rw [HSN.out, regB_snoc, HRB.out, HQ.out, HKD.out]; rfl), congrArg Value.bool (by rw [HSN.out, othB_snoc, HOB.out, HQ.out, HKN.out]; rfl), HTR.out.drew⟩
            | (simp [intOf]; omega)
    · have hke : l.take k = l := List.take_of_length_le (by rw [HN.out]; omega)
      have HG := Lib.hid (show b8 l x = (R && O) from by rw [b8, ← HRB.out, ← HOB.out, hke])
      have dk : decide ((k : Int) < (n : Int)) = false := decide_eq_false (by omega)
      have HTR := Lib.hid htr
      clear htr hke
      cases R
      all_goals go_wp2_with fail
      all_goals go_ret
      all_goals exact ⟨by rw [HG.out]; rfl, T1.out.trans HTR.out (fun _ _ => id)⟩
end Go.Proofs.Ytifhnidcodhoeaa
