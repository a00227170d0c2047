/- Own texts, packed: Q10. -/
import Derived.Test.YtboofamenpcnhaaGreatDoorV32
import Derived.Test.YtboofamenpcnhaaGreatDoorV00
namespace Go.Proofs.YtboofamenpcnhaaGreatDoor
set_option maxRecDepth 100000
open Go.RowKit
set_option linter.unusedVariables false
set_option linter.unusedSimpArgs false
set_option maxHeartbeats 1600000 in
set_option maxRecDepth 100000 in
theorem insert_20 (w : World) (D P : Nat) (v : Value) (L : List (Nat × Nat)) (i k a e : Nat) (h : MapIn w D P v L) (hb : L.length ≤ 6000) (hi : i ≤ L.length)
    (hk : i = k + 1) (hkl : k < L.length) (hq : L[k].2 = a) (hr : L.length = i) :
    Calls Tryz.prog 86 #[.pointer (some ⟨D, 0, none⟩), .int .i64 (i : Int), .agg #[.int .i64 (a : Int), .int .i64 (e : Int)]] w (fun en w' => en = .returned (.tuple #[]) ∧ MPost w D P v (L.take (k) ++ [((L[k].1), e)] ++ L.drop (i)) w') := by
  obtain ⟨w1, hw1⟩ : ∃ w1, w1 = w.alloc (.cells #[.int .i64 (a : Int), .int .i64 (e : Int)] 122) := ⟨_, rfl⟩
  obtain ⟨RB, hRB⟩ : ∃ RB, RB = w.heap.size := ⟨_, rfl⟩
  have hs1 : InSt w w1 D P v L RB a e := by
    subst hw1 hRB
    exact ⟨h.none ((Turn.refl _ w).alloc _), heap_alloc_new w _, Nat.le_refl _, h, (Turn.refl _ w).alloc _⟩
  obtain ⟨av, cap, hv⟩ := own_shape h.own
  obtain ⟨g, cap1, hv1, -, -⟩ := own_get h.own hkl
  obtain ⟨hav, -⟩ : av = some ⟨g, 0, none⟩ ∧ cap1 = cap := by rw [hv] at hv1; cases hv1; exact ⟨rfl, rfl⟩
  subst hav
  have hleft : ∀ wr R x y, InSt w wr D P v L R x y → wr.cell? ⟨g, k * 2, none⟩ = some (.int .i64 (L[k].1 : Int)) ∧ wr.cell? ⟨g, k * 2 + 1, none⟩ = some (.int .i64 (L[k].2 : Int)) := fun wr R x y hh => by
    obtain ⟨g', cap', hv', c1, c2⟩ := own_get hh.map.own hkl
    rw [hv] at hv'; cases hv'
    exact ⟨c1, c2⟩
  obtain ⟨q1, hq1⟩ : ∃ q1, L[k].1 = q1 := ⟨_, rfl⟩
  obtain ⟨q2, hq2⟩ : ∃ q2, L[k].2 = q2 := ⟨_, rfl⟩
  rw [hq2] at hq
  simp only [hq1, hq2] at hleft
  rw [hq1]
  subst hq
  have HS := Lib.hid hs1
  obtain ⟨L', hL'⟩ : ∃ L', L' = L.take (k) ++ [(q1, e)] ++ L.drop (i) := ⟨_, rfl⟩
  rw [← hL']
  have HL' := Lib.hid hL'
  have hn : ∃ n, L.length = n := ⟨_, rfl⟩
  obtain ⟨n, hn⟩ := hn
  rw [hn] at hv hb hi hr hkl
  have HN := Lib.hid hn
  have HV := Lib.hid hv
  have HW1 := Lib.hid hw1
  have HRB := Lib.hid hRB
  have d1 := hs1.map.cell1
  have b0 := hs1.box.c0
  have b1 := hs1.box.c1
  rw [hv] at d1
  obtain ⟨l1, l2⟩ := hleft _ _ _ _ hs1
  have HLF := Lib.hid hleft
  have hki : (i : Int) - 1 = (k : Int) := by omega
  have hkw : IntKind.i64.wrap (k : Int) = (k : Int) := by rw [IntKind.wrap_i64]; omega
  have hp0 : (0 : Int) < (i : Int) := by omega
  have HK := Lib.hid hk
  have hrI : ¬ ((i : Int) < (n : Int)) := by omega
  have HR := Lib.hid hr
  clear hs1 hn hL' hw1 hRB h hv hleft hq1 hq2 hk hv1 hr
  go_enter Tryz.func86, Tryz.ntmps86
  go_wp2_with fail
  rw [← HW1.out, ← HRB.out]
  refine wp_region_held_drew (S := fun wq => wq.cell? ⟨D, 1, none⟩ = some (.slice (some ⟨g, 0, none⟩) n cap) ∧ wq.cell? ⟨g, k * 2 + 1, none⟩ = some (.int .i64 (q2 : Int)) ∧ wq.cell? ⟨RB, 0, none⟩ = some (.int .i64 (q2 : Int))) (by kernel_rfl) ⟨d1, l2, b0⟩ (fun hHeld => ?_)
  refine wpAnyH_take (i := 0) (v := .int .i64 (i : Int)) rfl (by kernel_rfl) (by kernel_rfl) (by kernel_rfl) (fun _ _ _ h => h) (Or.inl ⟨by rfl, ?yl0⟩) (by assumption) ?rl0
  case yl0 => (intro wq hSw; (try simp only [zq1, zq2, zq3]); go_simp; (try with_reducible rfl); all_goals (try omega))
  case rl0 =>
  try simp only [Act.put, zq4, zq5, zq6, zq1, zq2, zq3]
  refine wpAnyH_take (i := 1) (v := .bool true) rfl (by kernel_rfl) (by kernel_rfl) (by kernel_rfl) (fun _ _ _ h => h) (Or.inl ⟨by rfl, ?yl1⟩) (by assumption) ?rl1
  case yl1 => (intro wq hSw; (try simp only [zq1, zq2, zq3]); go_simp; (try with_reducible rfl); all_goals (try omega))
  case rl1 =>
  try simp only [Act.put, zq4, zq5, zq6, zq1, zq2, zq3]
  refine wpAnyH_take (i := 2) (v := .bool true) rfl (by kernel_rfl) (by kernel_rfl) (by kernel_rfl) (fun _ _ _ h => h) (Or.inl ⟨by rfl, ?yl2⟩) (by assumption) ?rl2
  case yl2 => (intro wq hSw; (try simp only [zq1, zq2, zq3]); go_simp; (try with_reducible rfl); all_goals (try omega))
  case rl2 =>
  try simp only [Act.put, zq4, zq5, zq6, zq1, zq2, zq3]
  refine wpAnyH_take (i := 3) (v := .pointer (some ⟨D, 0, none⟩)) rfl (by kernel_rfl) (by kernel_rfl) (by kernel_rfl) (fun _ _ _ h => h) (Or.inl ⟨by rfl, ?yl3⟩) (by assumption) ?rl3
  case yl3 => (intro wq hSw; (try simp only [zq1, zq2, zq3]); go_simp; (try with_reducible rfl); all_goals (try omega))
  case rl3 =>
  try simp only [Act.put, zq4, zq5, zq6, zq1, zq2, zq3]
  refine wpAnyH_take (i := 4) (v := .pointer (some ⟨D, 0, none⟩)) rfl (by kernel_rfl) (by kernel_rfl) (by kernel_rfl) (fun _ _ _ h => h) (Or.inl ⟨by rfl, ?yl4⟩) (by assumption) ?rl4
  case yl4 => (intro wq hSw; (try simp only [zq1, zq2, zq3]); go_simp; (try with_reducible rfl); all_goals (try omega))
  case rl4 =>
  try simp only [Act.put, zq4, zq5, zq6, zq1, zq2, zq3]
  refine wpAnyH_take (i := 5) (v := .pointer (some ⟨D, 1, none⟩)) rfl (by kernel_rfl) (by kernel_rfl) (by kernel_rfl) (fun _ _ _ h => h) (Or.inl ⟨by rfl, ?yl5⟩) (by assumption) ?rl5
  case yl5 => (intro wq hSw; (try simp only [zq1, zq2, zq3]); go_simp; (try with_reducible rfl); all_goals (try omega))
  case rl5 =>
  try simp only [Act.put, zq4, zq5, zq6, zq1, zq2, zq3]
  refine wpAnyH_take (i := 6) (v := .slice (some ⟨g, 0, none⟩) n cap) rfl (by kernel_rfl) (by kernel_rfl) (by kernel_rfl) (fun _ _ _ h => h) (Or.inl ⟨by rfl, ?yl6⟩) (by assumption) ?rl6
  case yl6 => (intro wq hSw; obtain ⟨z1, z2, z3⟩ := hSw; (try simp only [zq1, zq2, zq3]); go_simp; (try with_reducible rfl); all_goals (try omega))
  case rl6 =>
  try simp only [Act.put, zq4, zq5, zq6, zq1, zq2, zq3]
  refine wpAnyH_take (i := 7) (v := .int .i64 (i : Int)) rfl (by kernel_rfl) (by kernel_rfl) (by kernel_rfl) (fun _ _ _ h => h) (Or.inl ⟨by rfl, ?yl7⟩) (by assumption) ?rl7
  case yl7 => (intro wq hSw; (try simp only [zq1, zq2, zq3]); go_simp; (try with_reducible rfl); all_goals (try omega))
  case rl7 =>
  try simp only [Act.put, zq4, zq5, zq6, zq1, zq2, zq3]
  refine wpAnyH_take (i := 8) (v := .int .i64 (k : Int)) rfl (by kernel_rfl) (by kernel_rfl) (by kernel_rfl) (fun _ _ _ h => h) (Or.inl ⟨by rfl, ?yl8⟩) (by assumption) ?rl8
  case yl8 => (intro wq hSw; (try simp only [zq1, zq2, zq3]); go_simp; (try with_reducible rfl); all_goals (try omega))
  case rl8 =>
  try simp only [Act.put, zq4, zq5, zq6, zq1, zq2, zq3]
  refine wpAnyH_take (i := 9) (v := .pointer (some ⟨g, k * 2, none⟩)) rfl (by kernel_rfl) (by kernel_rfl) (by kernel_rfl) (fun _ _ _ h => h) (Or.inl ⟨by rfl, ?yl9⟩) (by assumption) ?rl9
  case yl9 => (intro wq hSw; (try simp only [zq1, zq2, zq3]); go_simp; (try with_reducible rfl); all_goals (try omega))
  case rl9 =>
  try simp only [Act.put, zq4, zq5, zq6, zq1, zq2, zq3]
  refine wpAnyH_take (i := 10) (v := .pointer (some ⟨g, k * 2 + 1, none⟩)) rfl (by kernel_rfl) (by kernel_rfl) (by kernel_rfl) (fun _ _ _ h => h) (Or.inl ⟨by rfl, ?yl10⟩) (by assumption) ?rl10
  case yl10 => (intro wq hSw; (try simp only [zq1, zq2, zq3]); go_simp; (try with_reducible rfl); all_goals (try omega))
  case rl10 =>
  try simp only [Act.put, zq4, zq5, zq6, zq1, zq2, zq3]
  refine wpAnyH_take (i := 11) (v := .int .i64 (q2 : Int)) rfl (by kernel_rfl) (by kernel_rfl) (by kernel_rfl) (fun _ _ _ h => h) (Or.inl ⟨by rfl, ?yl11⟩) (by assumption) ?rl11
  case yl11 => (intro wq hSw; obtain ⟨z1, z2, z3⟩ := hSw; (try simp only [zq1, zq2, zq3]); go_simp; (try with_reducible rfl); all_goals (try omega))
  case rl11 =>
  try simp only [Act.put, zq4, zq5, zq6, zq1, zq2, zq3]
  refine wpAnyH_take (i := 12) (v := .pointer (some ⟨RB, 0, none⟩)) rfl (by kernel_rfl) (by kernel_rfl) (by kernel_rfl) (fun _ _ _ h => h) (Or.inl ⟨by rfl, ?yl12⟩) (by assumption) ?rl12
  case yl12 => (intro wq hSw; (try simp only [zq1, zq2, zq3]); go_simp; (try with_reducible rfl); all_goals (try omega))
  case rl12 =>
  try simp only [Act.put, zq4, zq5, zq6, zq1, zq2, zq3]
  refine wpAnyH_take (i := 13) (v := .int .i64 (q2 : Int)) rfl (by kernel_rfl) (by kernel_rfl) (by kernel_rfl) (fun _ _ _ h => h) (Or.inl ⟨by rfl, ?yl13⟩) (by assumption) ?rl13
  case yl13 => (intro wq hSw; obtain ⟨z1, z2, z3⟩ := hSw; (try simp only [zq1, zq2, zq3]); go_simp; (try with_reducible rfl); all_goals (try omega))
  case rl13 =>
  try simp only [Act.put, zq4, zq5, zq6, zq1, zq2, zq3]
  refine wpAnyH_take (i := 14) (v := .bool true) rfl (by kernel_rfl) (by kernel_rfl) (by kernel_rfl) (fun _ _ _ h => h) (Or.inl ⟨by rfl, ?yl14⟩) (by assumption) ?rl14
  case yl14 => (intro wq hSw; (try simp only [zq1, zq2, zq3]); go_simp; (try with_reducible rfl); all_goals (try omega))
  case rl14 =>
  try simp only [Act.put, zq4, zq5, zq6, zq1, zq2, zq3]
  refine wpAnyH_take (i := 15) (v := .bool true) rfl (by kernel_rfl) (by kernel_rfl) (by kernel_rfl) (fun _ _ _ h => h) (Or.inl ⟨by rfl, ?yl15⟩) (by assumption) ?rl15
  case yl15 => (intro wq hSw; (try simp only [zq1, zq2, zq3]); go_simp; (try with_reducible rfl); all_goals (try omega))
  case rl15 =>
  try simp only [Act.put, zq4, zq5, zq6, zq1, zq2, zq3]
  refine wpAnyH_done (by kernel_rfl) ?_ _
  have f0 := HS.out.box.free 0
  go_wp2_with fail
  have HS2 := Lib.hid ((HS.out.set0 q1).drew)
  clear f0
  obtain ⟨w2, hw2⟩ : ∃ w2, w2 = (w1.setCell ⟨RB, 0, none⟩ (.int .i64 (q1 : Int))).drew := ⟨_, rfl⟩
  rw [← hw2] at HS2 ⊢
  clear hw2 d1 b0 b1 hHeld
  have d1 := HS2.out.drew.map.cell1
  have b0 := HS2.out.drew.box.c0
  have b1 := HS2.out.drew.box.c1
  rw [HV.out] at d1
  refine wp_region_held_drew (S := fun wq => wq.cell? ⟨D, 1, none⟩ = some (.slice (some ⟨g, 0, none⟩) n cap)) (by kernel_rfl) d1 (fun hHeld => ?_)
  refine wpAnyH_take (i := 0) (v := .int .i64 (i : Int)) rfl (by kernel_rfl) (by kernel_rfl) (by kernel_rfl) (fun _ _ _ h => h) (Or.inl ⟨by rfl, ?yr0⟩) (by assumption) ?rr0
  case yr0 => (intro wq hSw; (try simp only [zq1, zq2, zq3]); go_simp; (try with_reducible rfl); all_goals (try omega))
  case rr0 =>
  try simp only [Act.put, zq4, zq5, zq6, zq1, zq2, zq3]
  refine wpAnyH_take (i := 1) (v := .pointer (some ⟨D, 0, none⟩)) rfl (by kernel_rfl) (by kernel_rfl) (by kernel_rfl) (fun _ _ _ h => h) (Or.inl ⟨by rfl, ?yr1⟩) (by assumption) ?rr1
  case yr1 => (intro wq hSw; (try simp only [zq1, zq2, zq3]); go_simp; (try with_reducible rfl); all_goals (try omega))
  case rr1 =>
  try simp only [Act.put, zq4, zq5, zq6, zq1, zq2, zq3]
  refine wpAnyH_take (i := 2) (v := .pointer (some ⟨D, 0, none⟩)) rfl (by kernel_rfl) (by kernel_rfl) (by kernel_rfl) (fun _ _ _ h => h) (Or.inl ⟨by rfl, ?yr2⟩) (by assumption) ?rr2
  case yr2 => (intro wq hSw; (try simp only [zq1, zq2, zq3]); go_simp; (try with_reducible rfl); all_goals (try omega))
  case rr2 =>
  try simp only [Act.put, zq4, zq5, zq6, zq1, zq2, zq3]
  refine wpAnyH_take (i := 3) (v := .pointer (some ⟨D, 1, none⟩)) rfl (by kernel_rfl) (by kernel_rfl) (by kernel_rfl) (fun _ _ _ h => h) (Or.inl ⟨by rfl, ?yr3⟩) (by assumption) ?rr3
  case yr3 => (intro wq hSw; (try simp only [zq1, zq2, zq3]); go_simp; (try with_reducible rfl); all_goals (try omega))
  case rr3 =>
  try simp only [Act.put, zq4, zq5, zq6, zq1, zq2, zq3]
  refine wpAnyH_take (i := 4) (v := .slice (some ⟨g, 0, none⟩) n cap) rfl (by kernel_rfl) (by kernel_rfl) (by kernel_rfl) (fun _ _ _ h => h) (Or.inl ⟨by rfl, ?yr4⟩) (by assumption) ?rr4
  case yr4 => (intro wq hSw; have z1 := hSw; (try simp only [zq1, zq2, zq3]); go_simp; (try with_reducible rfl); all_goals (try omega))
  case rr4 =>
  try simp only [Act.put, zq4, zq5, zq6, zq1, zq2, zq3]
  refine wpAnyH_take (i := 5) (v := .int .i64 (n : Int)) rfl (by kernel_rfl) (by kernel_rfl) (by kernel_rfl) (fun _ _ _ h => h) (Or.inl ⟨by rfl, ?yr5⟩) (by assumption) ?rr5
  case yr5 => (intro wq hSw; (try simp only [zq1, zq2, zq3]); go_simp; (try with_reducible rfl); all_goals (try omega))
  case rr5 =>
  try simp only [Act.put, zq4, zq5, zq6, zq1, zq2, zq3]
  refine wpAnyH_take (i := 6) (v := .bool false) rfl (by kernel_rfl) (by kernel_rfl) (by kernel_rfl) (fun _ _ _ h => h) (Or.inl ⟨by rfl, ?yr6⟩) (by assumption) ?rr6
  case yr6 => (intro wq hSw; (try simp only [zq1, zq2, zq3]); go_simp; (try with_reducible rfl); all_goals (try omega))
  case rr6 =>
  try simp only [Act.put, zq4, zq5, zq6, zq1, zq2, zq3]
  refine wpAnyH_take (i := 7) (v := .bool false) rfl (by kernel_rfl) (by kernel_rfl) (by kernel_rfl) (fun _ _ _ h => h) (Or.inl ⟨by rfl, ?yr7⟩) (by assumption) ?rr7
  case yr7 => (intro wq hSw; (try simp only [zq1, zq2, zq3]); go_simp; (try with_reducible rfl); all_goals (try omega))
  case rr7 =>
  try simp only [Act.put, zq4, zq5, zq6, zq1, zq2, zq3]
  refine wpAnyH_take (i := 8) (v := undef) rfl (by kernel_rfl) (by kernel_rfl) (by kernel_rfl) (fun _ _ _ h => h) (Or.inr ⟨by rfl, rfl⟩) (by assumption) ?rr8
  case rr8 =>
  try simp only [Act.put, zq4, zq5, zq6, zq1, zq2, zq3]
  refine wpAnyH_take (i := 9) (v := undef) rfl (by kernel_rfl) (by kernel_rfl) (by kernel_rfl) (fun _ _ _ h => h) (Or.inr ⟨by rfl, rfl⟩) (by assumption) ?rr9
  case rr9 =>
  try simp only [Act.put, zq4, zq5, zq6, zq1, zq2, zq3]
  refine wpAnyH_take (i := 10) (v := undef) rfl (by kernel_rfl) (by kernel_rfl) (by kernel_rfl) (fun _ _ _ h => h) (Or.inr ⟨by rfl, rfl⟩) (by assumption) ?rr10
  case rr10 =>
  try simp only [Act.put, zq4, zq5, zq6, zq1, zq2, zq3]
  refine wpAnyH_take (i := 11) (v := undef) rfl (by kernel_rfl) (by kernel_rfl) (by kernel_rfl) (fun _ _ _ h => h) (Or.inr ⟨by rfl, rfl⟩) (by assumption) ?rr11
  case rr11 =>
  try simp only [Act.put, zq4, zq5, zq6, zq1, zq2, zq3]
  refine wpAnyH_take (i := 12) (v := undef) rfl (by kernel_rfl) (by kernel_rfl) (by kernel_rfl) (fun _ _ _ h => h) (Or.inr ⟨by rfl, rfl⟩) (by assumption) ?rr12
  case rr12 =>
  try simp only [Act.put, zq4, zq5, zq6, zq1, zq2, zq3]
  refine wpAnyH_take (i := 13) (v := undef) rfl (by kernel_rfl) (by kernel_rfl) (by kernel_rfl) (fun _ _ _ h => h) (Or.inr ⟨by rfl, rfl⟩) (by assumption) ?rr13
  case rr13 =>
  try simp only [Act.put, zq4, zq5, zq6, zq1, zq2, zq3]
  refine wpAnyH_take (i := 14) (v := undef) rfl (by kernel_rfl) (by kernel_rfl) (by kernel_rfl) (fun _ _ _ h => h) (Or.inr ⟨by rfl, rfl⟩) (by assumption) ?rr14
  case rr14 =>
  try simp only [Act.put, zq4, zq5, zq6, zq1, zq2, zq3]
  refine wpAnyH_take (i := 15) (v := undef) rfl (by kernel_rfl) (by kernel_rfl) (by kernel_rfl) (fun _ _ _ h => h) (Or.inr ⟨by rfl, rfl⟩) (by assumption) ?rr15
  case rr15 =>
  try simp only [Act.put, zq4, zq5, zq6, zq1, zq2, zq3]
  refine wpAnyH_take (i := 16) (v := undef) rfl (by kernel_rfl) (by kernel_rfl) (by kernel_rfl) (fun _ _ _ h => h) (Or.inr ⟨by rfl, rfl⟩) (by assumption) ?rr16
  case rr16 =>
  try simp only [Act.put, zq4, zq5, zq6, zq1, zq2, zq3]
  refine wpAnyH_take (i := 17) (v := undef) rfl (by kernel_rfl) (by kernel_rfl) (by kernel_rfl) (fun _ _ _ h => h) (Or.inr ⟨by rfl, rfl⟩) (by assumption) ?rr17
  case rr17 =>
  try simp only [Act.put, zq4, zq5, zq6, zq1, zq2, zq3]
  refine wpAnyH_take (i := 18) (v := undef) rfl (by kernel_rfl) (by kernel_rfl) (by kernel_rfl) (fun _ _ _ h => h) (Or.inr ⟨by rfl, rfl⟩) (by assumption) ?rr18
  case rr18 =>
  try simp only [Act.put, zq4, zq5, zq6, zq1, zq2, zq3]
  refine wpAnyH_take (i := 19) (v := .bool false) rfl (by kernel_rfl) (by kernel_rfl) (by kernel_rfl) (fun _ _ _ h => h) (Or.inl ⟨by rfl, ?yr19⟩) (by assumption) ?rr19
  case yr19 => (intro wq hSw; (try simp only [zq1, zq2, zq3]); go_simp; (try with_reducible rfl); all_goals (try omega))
  case rr19 =>
  try simp only [Act.put, zq4, zq5, zq6, zq1, zq2, zq3]
  refine wpAnyH_done (by kernel_rfl) ?_ _
  go_wp2_with fail
  have HS3 := Lib.hid HS2.out.drew
  obtain ⟨w3, hw3⟩ : ∃ w3, w3 = w2.drew := ⟨_, rfl⟩
  rw [← hw3] at HS3 ⊢
  clear hw3 d1 b0 b1 hHeld
  have b0 := HS3.out.drew.box.c0
  have b1 := HS3.out.drew.box.c1
  have d1 := HS3.out.drew.map.cell1
  have hcall := in_call HS3.out.drew (k) (i) (by omega) (by rw [HN.out]; omega) (by rw [HN.out]; omega)
  obtain ⟨W, hW⟩ : ∃ W, W = w3.drew := ⟨_, rfl⟩
  have HW := Lib.hid hW
  rw [← hW] at b0 b1 d1 hcall
  rw [HV.out] at d1 hcall
  have HCALL := Lib.hid hcall
  clear hcall
  refine wp_region_held_drew (S := fun wq => wq.cell? ⟨RB, 0, none⟩ = some (.int .i64 (q1 : Int)) ∧ wq.cell? ⟨RB, 1, none⟩ = some (.int .i64 (e : Int))) (by kernel_rfl) (by rw [← hW]; exact ⟨b0, b1⟩) (fun hHeld => ?_)
  rw [← hW]
  clear hW hHeld
  have hHeld : W.cell? ⟨RB, 0, none⟩ = some (.int .i64 (q1 : Int)) ∧ W.cell? ⟨RB, 1, none⟩ = some (.int .i64 (e : Int)) := ⟨b0, b1⟩
  refine wpAnyH_take (i := 0) (v := .pointer (some ⟨D, 0, none⟩)) rfl (by kernel_rfl) (by kernel_rfl) (by kernel_rfl) (fun _ _ _ h => h) (Or.inl ⟨by rfl, ?yz0⟩) (by assumption) ?rz0
  case yz0 => (intro wq hSw; (try simp only [zq1, zq2, zq3]); go_simp; (try with_reducible rfl); all_goals (try omega))
  case rz0 =>
  try simp only [Act.put, zq4, zq5, zq6, zq1, zq2, zq3]
  refine wpAnyH_take (i := 1) (v := .pointer (some ⟨D, 0, none⟩)) rfl (by kernel_rfl) (by kernel_rfl) (by kernel_rfl) (fun _ _ _ h => h) (Or.inl ⟨by rfl, ?yz1⟩) (by assumption) ?rz1
  case yz1 => (intro wq hSw; (try simp only [zq1, zq2, zq3]); go_simp; (try with_reducible rfl); all_goals (try omega))
  case rz1 =>
  try simp only [Act.put, zq4, zq5, zq6, zq1, zq2, zq3]
  refine wpAnyH_take (i := 2) (v := .pointer (some ⟨D, 0, none⟩)) rfl (by kernel_rfl) (by kernel_rfl) (by kernel_rfl) (fun _ _ _ h => h) (Or.inl ⟨by rfl, ?yz2⟩) (by assumption) ?rz2
  case yz2 => (intro wq hSw; (try simp only [zq1, zq2, zq3]); go_simp; (try with_reducible rfl); all_goals (try omega))
  case rz2 =>
  try simp only [Act.put, zq4, zq5, zq6, zq1, zq2, zq3]
  refine wpAnyH_take (i := 3) (v := .pointer (some ⟨D, 1, none⟩)) rfl (by kernel_rfl) (by kernel_rfl) (by kernel_rfl) (fun _ _ _ h => h) (Or.inl ⟨by rfl, ?yz3⟩) (by assumption) ?rz3
  case yz3 => (intro wq hSw; (try simp only [zq1, zq2, zq3]); go_simp; (try with_reducible rfl); all_goals (try omega))
  case rz3 =>
  try simp only [Act.put, zq4, zq5, zq6, zq1, zq2, zq3]
  refine wpAnyH_take (i := 5) (v := .int .i64 ((k : Int))) rfl (by kernel_rfl) (by kernel_rfl) (by kernel_rfl) (fun _ _ _ h => h) (Or.inl ⟨by rfl, ?yz5⟩) (by assumption) ?rz5
  case yz5 => (intro wq hSw; (try simp only [zq1, zq2, zq3]); go_simp; (try with_reducible rfl); all_goals (try omega))
  case rz5 =>
  try simp only [Act.put, zq4, zq5, zq6, zq1, zq2, zq3]
  refine wpAnyH_take (i := 6) (v := .int .i64 ((i : Int))) rfl (by kernel_rfl) (by kernel_rfl) (by kernel_rfl) (fun _ _ _ h => h) (Or.inl ⟨by rfl, ?yz6⟩) (by assumption) ?rz6
  case yz6 => (intro wq hSw; (try simp only [zq1, zq2, zq3]); go_simp; (try with_reducible rfl); all_goals (try omega))
  case rz6 =>
  try simp only [Act.put, zq4, zq5, zq6, zq1, zq2, zq3]
  refine wpAnyH_take (i := 7) (v := .agg #[.int .i64 (q1 : Int), .int .i64 (e : Int)]) rfl (by kernel_rfl) (by kernel_rfl) (by kernel_rfl) (fun _ _ _ h => h) (Or.inl ⟨by rfl, ?yz7⟩) (by assumption) ?rz7
  case yz7 => (intro wq hSw; obtain ⟨z1, z2⟩ := hSw; (try simp only [zq1, zq2, zq3]); go_simp; (try with_reducible rfl); all_goals (try omega))
  case rz7 =>
  try simp only [Act.put, zq4, zq5, zq6, zq1, zq2, zq3]
  refine wpAnyH_ready (rs := [4, 8]) (by kernel_rfl) (by simp) ?_
  refine AllReadyH.cons rfl (fun K hK => ?_) (AllReadyH.cons rfl (fun K hK => ?_) AllReadyH.nil)
  · go_simp
    refine hK.out _ _ ⟨b0, b1⟩ (fun _ => ?_)
    clear hK K
    try simp only [Act.put, zq4, zq5, zq6, zq1, zq2, zq3]
    refine wpAnyH_ready (rs := [8]) (by kernel_rfl) (by simp) ?_
    refine AllReadyH.cons rfl (fun K hK => ?_) AllReadyH.nil
    go_simp
    
    refine hK.out _ _ (in_new _ b0 b1) (fun _ => ?_)
    clear hK K
    try simp only [Act.put, zq4, zq5, zq6, zq1, zq2, zq3]
    refine wpAnyH_ready (rs := [9]) (by kernel_rfl) (by simp) ?_
    refine AllReadyH.cons rfl (fun K hK => ?_) AllReadyH.nil
    go_simp
    refine (HCALL.out).mono ?_
    rintro e9 w5 ⟨v', rfl, o1, o2, o3⟩
    rw [← HV.out] at o2 o3
    have hst : InSt w W D P v L RB q1 e := by rw [HW.out]; exact HS3.out.drew
    have HM := Lib.hid (in_end hst _ o1 o2 o3)
    have HB0 := Lib.hid (in_box hst _ o3)
    have hfr : w5.frozen? ⟨D, 1, none⟩ = false := in_free hst _ o3
    obtain ⟨u0, hcl⟩ := in_some hst _ o3
    obtain ⟨va, ln, vc2, hvs⟩ := own_form o1
    clear o1 o2 o3
    subst hvs
    refine hK.out _ _ HB0.out (fun _ => ?_)
    clear hK K
    try simp only [Act.put, zq4, zq5, zq6, zq1, zq2, zq3]
    refine wpAnyH_take (i := 10) (v := .pointer (some ⟨D, 0, none⟩)) rfl (by kernel_rfl) (by kernel_rfl) (by kernel_rfl) (fun _ _ _ h => h) (Or.inl ⟨by rfl, ?yza10⟩) (by assumption) ?rza10
    case yza10 => (intro wq hSw; (try simp only [zq1, zq2, zq3]); go_simp; (try with_reducible rfl); all_goals (try omega))
    case rza10 =>
    try simp only [Act.put, zq4, zq5, zq6, zq1, zq2, zq3]
    refine wpAnyH_take (i := 11) (v := .pointer (some ⟨D, 1, none⟩)) rfl (by kernel_rfl) (by kernel_rfl) (by kernel_rfl) (fun _ _ _ h => h) (Or.inl ⟨by rfl, ?yza11⟩) (by assumption) ?rza11
    case yza11 => (intro wq hSw; (try simp only [zq1, zq2, zq3]); go_simp; (try with_reducible rfl); all_goals (try omega))
    case rza11 =>
    try simp only [Act.put, zq4, zq5, zq6, zq1, zq2, zq3]
    refine wpAnyH_ready (rs := [12]) (by kernel_rfl) (by simp) ?_
    refine AllReadyH.cons rfl (fun K hK => ?_) AllReadyH.nil
    go_simp
    
    refine hK.out _ _ (in_last hst HB0.out) (fun _ => ?_)
    clear hK K
    try simp only [Act.put, zq4, zq5, zq6, zq1, zq2, zq3]
    refine wpAnyH_done (by kernel_rfl) ?_ _
    go_end0
    exact ⟨rfl, by rw [HL'.out]; exact HM.out⟩
  · go_simp
    refine hK.out _ _ (in_new _ b0 b1) (fun _ => ?_)
    clear hK K
    have dn := in_newD (.cells #[.int .i64 (q1 : Int), .int .i64 (e : Int)] 122) d1
    try simp only [Act.put, zq4, zq5, zq6, zq1, zq2, zq3]
    refine wpAnyH_ready (rs := [4]) (by kernel_rfl) (by simp) ?_
    refine AllReadyH.cons rfl (fun K hK => ?_) AllReadyH.nil
    go_simp
    
    refine hK.out _ _ (in_new _ b0 b1) (fun _ => ?_)
    clear hK K
    try simp only [Act.put, zq4, zq5, zq6, zq1, zq2, zq3]
    refine wpAnyH_ready (rs := [9]) (by kernel_rfl) (by simp) ?_
    refine AllReadyH.cons rfl (fun K hK => ?_) AllReadyH.nil
    go_simp
    refine (HCALL.out).mono ?_
    rintro e9 w5 ⟨v', rfl, o1, o2, o3⟩
    rw [← HV.out] at o2 o3
    have hst : InSt w W D P v L RB q1 e := by rw [HW.out]; exact HS3.out.drew
    have HM := Lib.hid (in_end hst _ o1 o2 o3)
    have HB0 := Lib.hid (in_box hst _ o3)
    have hfr : w5.frozen? ⟨D, 1, none⟩ = false := in_free hst _ o3
    obtain ⟨u0, hcl⟩ := in_some hst _ o3
    obtain ⟨va, ln, vc2, hvs⟩ := own_form o1
    clear o1 o2 o3
    subst hvs
    refine hK.out _ _ HB0.out (fun _ => ?_)
    clear hK K
    try simp only [Act.put, zq4, zq5, zq6, zq1, zq2, zq3]
    refine wpAnyH_take (i := 10) (v := .pointer (some ⟨D, 0, none⟩)) rfl (by kernel_rfl) (by kernel_rfl) (by kernel_rfl) (fun _ _ _ h => h) (Or.inl ⟨by rfl, ?yzb10⟩) (by assumption) ?rzb10
    case yzb10 => (intro wq hSw; (try simp only [zq1, zq2, zq3]); go_simp; (try with_reducible rfl); all_goals (try omega))
    case rzb10 =>
    try simp only [Act.put, zq4, zq5, zq6, zq1, zq2, zq3]
    refine wpAnyH_take (i := 11) (v := .pointer (some ⟨D, 1, none⟩)) rfl (by kernel_rfl) (by kernel_rfl) (by kernel_rfl) (fun _ _ _ h => h) (Or.inl ⟨by rfl, ?yzb11⟩) (by assumption) ?rzb11
    case yzb11 => (intro wq hSw; (try simp only [zq1, zq2, zq3]); go_simp; (try with_reducible rfl); all_goals (try omega))
    case rzb11 =>
    try simp only [Act.put, zq4, zq5, zq6, zq1, zq2, zq3]
    refine wpAnyH_ready (rs := [12]) (by kernel_rfl) (by simp) ?_
    refine AllReadyH.cons rfl (fun K hK => ?_) AllReadyH.nil
    go_simp
    
    refine hK.out _ _ (in_last hst HB0.out) (fun _ => ?_)
    clear hK K
    try simp only [Act.put, zq4, zq5, zq6, zq1, zq2, zq3]
    refine wpAnyH_done (by kernel_rfl) ?_ _
    go_end0
    exact ⟨rfl, by rw [HL'.out]; exact HM.out⟩
set_option maxHeartbeats 1600000 in
set_option maxRecDepth 100000 in
theorem insert_21 (w : World) (D P : Nat) (v : Value) (L : List (Nat × Nat)) (i k a e : Nat) (h : MapIn w D P v L) (hb : L.length ≤ 6000) (hi : i ≤ L.length)
    (hk : i = k + 1) (hkl : k < L.length) (hq : L[k].2 = a) (hr : i < L.length) (hs : L[i].1 ≠ e) :
    Calls Tryz.prog 86 #[.pointer (some ⟨D, 0, none⟩), .int .i64 (i : Int), .agg #[.int .i64 (a : Int), .int .i64 (e : Int)]] w (fun en w' => en = .returned (.tuple #[]) ∧ MPost w D P v (L.take (k) ++ [((L[k].1), e)] ++ L.drop (i)) w') := by
  obtain ⟨w1, hw1⟩ : ∃ w1, w1 = w.alloc (.cells #[.int .i64 (a : Int), .int .i64 (e : Int)] 122) := ⟨_, rfl⟩
  obtain ⟨RB, hRB⟩ : ∃ RB, RB = w.heap.size := ⟨_, rfl⟩
  have hs1 : InSt w w1 D P v L RB a e := by
    subst hw1 hRB
    exact ⟨h.none ((Turn.refl _ w).alloc _), heap_alloc_new w _, Nat.le_refl _, h, (Turn.refl _ w).alloc _⟩
  obtain ⟨av, cap, hv⟩ := own_shape h.own
  obtain ⟨g, cap1, hv1, -, -⟩ := own_get h.own hkl
  obtain ⟨hav, -⟩ : av = some ⟨g, 0, none⟩ ∧ cap1 = cap := by rw [hv] at hv1; cases hv1; exact ⟨rfl, rfl⟩
  subst hav
  have hleft : ∀ wr R x y, InSt w wr D P v L R x y → wr.cell? ⟨g, k * 2, none⟩ = some (.int .i64 (L[k].1 : Int)) ∧ wr.cell? ⟨g, k * 2 + 1, none⟩ = some (.int .i64 (L[k].2 : Int)) := fun wr R x y hh => by
    obtain ⟨g', cap', hv', c1, c2⟩ := own_get hh.map.own hkl
    rw [hv] at hv'; cases hv'
    exact ⟨c1, c2⟩
  obtain ⟨q1, hq1⟩ : ∃ q1, L[k].1 = q1 := ⟨_, rfl⟩
  obtain ⟨q2, hq2⟩ : ∃ q2, L[k].2 = q2 := ⟨_, rfl⟩
  rw [hq2] at hq
  simp only [hq1, hq2] at hleft
  rw [hq1]
  have hright : ∀ wr R x y, InSt w wr D P v L R x y → wr.cell? ⟨g, i * 2, none⟩ = some (.int .i64 (L[i].1 : Int)) ∧ wr.cell? ⟨g, i * 2 + 1, none⟩ = some (.int .i64 (L[i].2 : Int)) := fun wr R x y hh => by
    obtain ⟨g', cap', hv', c1, c2⟩ := own_get hh.map.own hr
    rw [hv] at hv'; cases hv'
    exact ⟨c1, c2⟩
  obtain ⟨s1, hs1'⟩ : ∃ s1, L[i].1 = s1 := ⟨_, rfl⟩
  obtain ⟨s2, hs2'⟩ : ∃ s2, L[i].2 = s2 := ⟨_, rfl⟩
  rw [hs1'] at hs
  simp only [hs1', hs2'] at hright
  subst hq
  have HS := Lib.hid hs1
  obtain ⟨L', hL'⟩ : ∃ L', L' = L.take (k) ++ [(q1, e)] ++ L.drop (i) := ⟨_, rfl⟩
  rw [← hL']
  have HL' := Lib.hid hL'
  have hn : ∃ n, L.length = n := ⟨_, rfl⟩
  obtain ⟨n, hn⟩ := hn
  rw [hn] at hv hb hi hr hkl
  have HN := Lib.hid hn
  have HV := Lib.hid hv
  have HW1 := Lib.hid hw1
  have HRB := Lib.hid hRB
  have d1 := hs1.map.cell1
  have b0 := hs1.box.c0
  have b1 := hs1.box.c1
  rw [hv] at d1
  obtain ⟨l1, l2⟩ := hleft _ _ _ _ hs1
  have HLF := Lib.hid hleft
  have hki : (i : Int) - 1 = (k : Int) := by omega
  have hkw : IntKind.i64.wrap (k : Int) = (k : Int) := by rw [IntKind.wrap_i64]; omega
  have hp0 : (0 : Int) < (i : Int) := by omega
  have HK := Lib.hid hk
  have HRT := Lib.hid hright
  have hrI : (i : Int) < (n : Int) := by omega
  have hse : ((s1 : Int) == (e : Int)) = false := by rw [beq_eq_false_iff_ne]; omega
  have hsn : ¬ ((s1 : Int) = (e : Int)) := by omega
  clear hs1 hn hL' hw1 hRB h hv hleft hq1 hq2 hk hv1 hright hs1' hs2' hs
  go_enter Tryz.func86, Tryz.ntmps86
  go_wp2_with fail
  rw [← HW1.out, ← HRB.out]
  refine wp_region_held_drew (S := fun wq => wq.cell? ⟨D, 1, none⟩ = some (.slice (some ⟨g, 0, none⟩) n cap) ∧ wq.cell? ⟨g, k * 2 + 1, none⟩ = some (.int .i64 (q2 : Int)) ∧ wq.cell? ⟨RB, 0, none⟩ = some (.int .i64 (q2 : Int))) (by kernel_rfl) ⟨d1, l2, b0⟩ (fun hHeld => ?_)
  refine wpAnyH_take (i := 0) (v := .int .i64 (i : Int)) rfl (by kernel_rfl) (by kernel_rfl) (by kernel_rfl) (fun _ _ _ h => h) (Or.inl ⟨by rfl, ?yl0⟩) (by assumption) ?rl0
  case yl0 => (intro wq hSw; (try simp only [zq1, zq2, zq3]); go_simp; (try with_reducible rfl); all_goals (try omega))
  case rl0 =>
  try simp only [Act.put, zq4, zq5, zq6, zq1, zq2, zq3]
  refine wpAnyH_take (i := 1) (v := .bool true) rfl (by kernel_rfl) (by kernel_rfl) (by kernel_rfl) (fun _ _ _ h => h) (Or.inl ⟨by rfl, ?yl1⟩) (by assumption) ?rl1
  case yl1 => (intro wq hSw; (try simp only [zq1, zq2, zq3]); go_simp; (try with_reducible rfl); all_goals (try omega))
  case rl1 =>
  try simp only [Act.put, zq4, zq5, zq6, zq1, zq2, zq3]
  refine wpAnyH_take (i := 2) (v := .bool true) rfl (by kernel_rfl) (by kernel_rfl) (by kernel_rfl) (fun _ _ _ h => h) (Or.inl ⟨by rfl, ?yl2⟩) (by assumption) ?rl2
  case yl2 => (intro wq hSw; (try simp only [zq1, zq2, zq3]); go_simp; (try with_reducible rfl); all_goals (try omega))
  case rl2 =>
  try simp only [Act.put, zq4, zq5, zq6, zq1, zq2, zq3]
  refine wpAnyH_take (i := 3) (v := .pointer (some ⟨D, 0, none⟩)) rfl (by kernel_rfl) (by kernel_rfl) (by kernel_rfl) (fun _ _ _ h => h) (Or.inl ⟨by rfl, ?yl3⟩) (by assumption) ?rl3
  case yl3 => (intro wq hSw; (try simp only [zq1, zq2, zq3]); go_simp; (try with_reducible rfl); all_goals (try omega))
  case rl3 =>
  try simp only [Act.put, zq4, zq5, zq6, zq1, zq2, zq3]
  refine wpAnyH_take (i := 4) (v := .pointer (some ⟨D, 0, none⟩)) rfl (by kernel_rfl) (by kernel_rfl) (by kernel_rfl) (fun _ _ _ h => h) (Or.inl ⟨by rfl, ?yl4⟩) (by assumption) ?rl4
  case yl4 => (intro wq hSw; (try simp only [zq1, zq2, zq3]); go_simp; (try with_reducible rfl); all_goals (try omega))
  case rl4 =>
  try simp only [Act.put, zq4, zq5, zq6, zq1, zq2, zq3]
  refine wpAnyH_take (i := 5) (v := .pointer (some ⟨D, 1, none⟩)) rfl (by kernel_rfl) (by kernel_rfl) (by kernel_rfl) (fun _ _ _ h => h) (Or.inl ⟨by rfl, ?yl5⟩) (by assumption) ?rl5
  case yl5 => (intro wq hSw; (try simp only [zq1, zq2, zq3]); go_simp; (try with_reducible rfl); all_goals (try omega))
  case rl5 =>
  try simp only [Act.put, zq4, zq5, zq6, zq1, zq2, zq3]
  refine wpAnyH_take (i := 6) (v := .slice (some ⟨g, 0, none⟩) n cap) rfl (by kernel_rfl) (by kernel_rfl) (by kernel_rfl) (fun _ _ _ h => h) (Or.inl ⟨by rfl, ?yl6⟩) (by assumption) ?rl6
  case yl6 => (intro wq hSw; obtain ⟨z1, z2, z3⟩ := hSw; (try simp only [zq1, zq2, zq3]); go_simp; (try with_reducible rfl); all_goals (try omega))
  case rl6 =>
  try simp only [Act.put, zq4, zq5, zq6, zq1, zq2, zq3]
  refine wpAnyH_take (i := 7) (v := .int .i64 (i : Int)) rfl (by kernel_rfl) (by kernel_rfl) (by kernel_rfl) (fun _ _ _ h => h) (Or.inl ⟨by rfl, ?yl7⟩) (by assumption) ?rl7
  case yl7 => (intro wq hSw; (try simp only [zq1, zq2, zq3]); go_simp; (try with_reducible rfl); all_goals (try omega))
  case rl7 =>
  try simp only [Act.put, zq4, zq5, zq6, zq1, zq2, zq3]
  refine wpAnyH_take (i := 8) (v := .int .i64 (k : Int)) rfl (by kernel_rfl) (by kernel_rfl) (by kernel_rfl) (fun _ _ _ h => h) (Or.inl ⟨by rfl, ?yl8⟩) (by assumption) ?rl8
  case yl8 => (intro wq hSw; (try simp only [zq1, zq2, zq3]); go_simp; (try with_reducible rfl); all_goals (try omega))
  case rl8 =>
  try simp only [Act.put, zq4, zq5, zq6, zq1, zq2, zq3]
  refine wpAnyH_take (i := 9) (v := .pointer (some ⟨g, k * 2, none⟩)) rfl (by kernel_rfl) (by kernel_rfl) (by kernel_rfl) (fun _ _ _ h => h) (Or.inl ⟨by rfl, ?yl9⟩) (by assumption) ?rl9
  case yl9 => (intro wq hSw; (try simp only [zq1, zq2, zq3]); go_simp; (try with_reducible rfl); all_goals (try omega))
  case rl9 =>
  try simp only [Act.put, zq4, zq5, zq6, zq1, zq2, zq3]
  refine wpAnyH_take (i := 10) (v := .pointer (some ⟨g, k * 2 + 1, none⟩)) rfl (by kernel_rfl) (by kernel_rfl) (by kernel_rfl) (fun _ _ _ h => h) (Or.inl ⟨by rfl, ?yl10⟩) (by assumption) ?rl10
  case yl10 => (intro wq hSw; (try simp only [zq1, zq2, zq3]); go_simp; (try with_reducible rfl); all_goals (try omega))
  case rl10 =>
  try simp only [Act.put, zq4, zq5, zq6, zq1, zq2, zq3]
  refine wpAnyH_take (i := 11) (v := .int .i64 (q2 : Int)) rfl (by kernel_rfl) (by kernel_rfl) (by kernel_rfl) (fun _ _ _ h => h) (Or.inl ⟨by rfl, ?yl11⟩) (by assumption) ?rl11
  case yl11 => (intro wq hSw; obtain ⟨z1, z2, z3⟩ := hSw; (try simp only [zq1, zq2, zq3]); go_simp; (try with_reducible rfl); all_goals (try omega))
  case rl11 =>
  try simp only [Act.put, zq4, zq5, zq6, zq1, zq2, zq3]
  refine wpAnyH_take (i := 12) (v := .pointer (some ⟨RB, 0, none⟩)) rfl (by kernel_rfl) (by kernel_rfl) (by kernel_rfl) (fun _ _ _ h => h) (Or.inl ⟨by rfl, ?yl12⟩) (by assumption) ?rl12
  case yl12 => (intro wq hSw; (try simp only [zq1, zq2, zq3]); go_simp; (try with_reducible rfl); all_goals (try omega))
  case rl12 =>
  try simp only [Act.put, zq4, zq5, zq6, zq1, zq2, zq3]
  refine wpAnyH_take (i := 13) (v := .int .i64 (q2 : Int)) rfl (by kernel_rfl) (by kernel_rfl) (by kernel_rfl) (fun _ _ _ h => h) (Or.inl ⟨by rfl, ?yl13⟩) (by assumption) ?rl13
  case yl13 => (intro wq hSw; obtain ⟨z1, z2, z3⟩ := hSw; (try simp only [zq1, zq2, zq3]); go_simp; (try with_reducible rfl); all_goals (try omega))
  case rl13 =>
  try simp only [Act.put, zq4, zq5, zq6, zq1, zq2, zq3]
  refine wpAnyH_take (i := 14) (v := .bool true) rfl (by kernel_rfl) (by kernel_rfl) (by kernel_rfl) (fun _ _ _ h => h) (Or.inl ⟨by rfl, ?yl14⟩) (by assumption) ?rl14
  case yl14 => (intro wq hSw; (try simp only [zq1, zq2, zq3]); go_simp; (try with_reducible rfl); all_goals (try omega))
  case rl14 =>
  try simp only [Act.put, zq4, zq5, zq6, zq1, zq2, zq3]
  refine wpAnyH_take (i := 15) (v := .bool true) rfl (by kernel_rfl) (by kernel_rfl) (by kernel_rfl) (fun _ _ _ h => h) (Or.inl ⟨by rfl, ?yl15⟩) (by assumption) ?rl15
  case yl15 => (intro wq hSw; (try simp only [zq1, zq2, zq3]); go_simp; (try with_reducible rfl); all_goals (try omega))
  case rl15 =>
  try simp only [Act.put, zq4, zq5, zq6, zq1, zq2, zq3]
  refine wpAnyH_done (by kernel_rfl) ?_ _
  have f0 := HS.out.box.free 0
  go_wp2_with fail
  have HS2 := Lib.hid ((HS.out.set0 q1).drew)
  clear f0
  obtain ⟨w2, hw2⟩ : ∃ w2, w2 = (w1.setCell ⟨RB, 0, none⟩ (.int .i64 (q1 : Int))).drew := ⟨_, rfl⟩
  rw [← hw2] at HS2 ⊢
  clear hw2 d1 b0 b1 hHeld
  have d1 := HS2.out.drew.map.cell1
  have b0 := HS2.out.drew.box.c0
  have b1 := HS2.out.drew.box.c1
  rw [HV.out] at d1
  obtain ⟨r1, r2⟩ := HRT.out _ _ _ _ HS2.out.drew
  refine wp_region_held_drew (S := fun wq => wq.cell? ⟨D, 1, none⟩ = some (.slice (some ⟨g, 0, none⟩) n cap) ∧ wq.cell? ⟨g, i * 2, none⟩ = some (.int .i64 (s1 : Int)) ∧ wq.cell? ⟨RB, 1, none⟩ = some (.int .i64 (e : Int))) (by kernel_rfl) ⟨d1, r1, b1⟩ (fun hHeld => ?_)
  refine wpAnyH_take (i := 0) (v := .int .i64 (i : Int)) rfl (by kernel_rfl) (by kernel_rfl) (by kernel_rfl) (fun _ _ _ h => h) (Or.inl ⟨by rfl, ?yr0⟩) (by assumption) ?rr0
  case yr0 => (intro wq hSw; (try simp only [zq1, zq2, zq3]); go_simp; (try with_reducible rfl); all_goals (try omega))
  case rr0 =>
  try simp only [Act.put, zq4, zq5, zq6, zq1, zq2, zq3]
  refine wpAnyH_take (i := 1) (v := .pointer (some ⟨D, 0, none⟩)) rfl (by kernel_rfl) (by kernel_rfl) (by kernel_rfl) (fun _ _ _ h => h) (Or.inl ⟨by rfl, ?yr1⟩) (by assumption) ?rr1
  case yr1 => (intro wq hSw; (try simp only [zq1, zq2, zq3]); go_simp; (try with_reducible rfl); all_goals (try omega))
  case rr1 =>
  try simp only [Act.put, zq4, zq5, zq6, zq1, zq2, zq3]
  refine wpAnyH_take (i := 2) (v := .pointer (some ⟨D, 0, none⟩)) rfl (by kernel_rfl) (by kernel_rfl) (by kernel_rfl) (fun _ _ _ h => h) (Or.inl ⟨by rfl, ?yr2⟩) (by assumption) ?rr2
  case yr2 => (intro wq hSw; (try simp only [zq1, zq2, zq3]); go_simp; (try with_reducible rfl); all_goals (try omega))
  case rr2 =>
  try simp only [Act.put, zq4, zq5, zq6, zq1, zq2, zq3]
  refine wpAnyH_take (i := 3) (v := .pointer (some ⟨D, 1, none⟩)) rfl (by kernel_rfl) (by kernel_rfl) (by kernel_rfl) (fun _ _ _ h => h) (Or.inl ⟨by rfl, ?yr3⟩) (by assumption) ?rr3
  case yr3 => (intro wq hSw; (try simp only [zq1, zq2, zq3]); go_simp; (try with_reducible rfl); all_goals (try omega))
  case rr3 =>
  try simp only [Act.put, zq4, zq5, zq6, zq1, zq2, zq3]
  refine wpAnyH_take (i := 4) (v := .slice (some ⟨g, 0, none⟩) n cap) rfl (by kernel_rfl) (by kernel_rfl) (by kernel_rfl) (fun _ _ _ h => h) (Or.inl ⟨by rfl, ?yr4⟩) (by assumption) ?rr4
  case yr4 => (intro wq hSw; obtain ⟨z1, z2, z3⟩ := hSw; (try simp only [zq1, zq2, zq3]); go_simp; (try with_reducible rfl); all_goals (try omega))
  case rr4 =>
  try simp only [Act.put, zq4, zq5, zq6, zq1, zq2, zq3]
  refine wpAnyH_take (i := 5) (v := .int .i64 (n : Int)) rfl (by kernel_rfl) (by kernel_rfl) (by kernel_rfl) (fun _ _ _ h => h) (Or.inl ⟨by rfl, ?yr5⟩) (by assumption) ?rr5
  case yr5 => (intro wq hSw; (try simp only [zq1, zq2, zq3]); go_simp; (try with_reducible rfl); all_goals (try omega))
  case rr5 =>
  try simp only [Act.put, zq4, zq5, zq6, zq1, zq2, zq3]
  refine wpAnyH_take (i := 6) (v := .bool true) rfl (by kernel_rfl) (by kernel_rfl) (by kernel_rfl) (fun _ _ _ h => h) (Or.inl ⟨by rfl, ?yr6⟩) (by assumption) ?rr6
  case yr6 => (intro wq hSw; (try simp only [zq1, zq2, zq3]); go_simp; (try with_reducible rfl); all_goals (try omega))
  case rr6 =>
  try simp only [Act.put, zq4, zq5, zq6, zq1, zq2, zq3]
  refine wpAnyH_take (i := 7) (v := .bool true) rfl (by kernel_rfl) (by kernel_rfl) (by kernel_rfl) (fun _ _ _ h => h) (Or.inl ⟨by rfl, ?yr7⟩) (by assumption) ?rr7
  case yr7 => (intro wq hSw; (try simp only [zq1, zq2, zq3]); go_simp; (try with_reducible rfl); all_goals (try omega))
  case rr7 =>
  try simp only [Act.put, zq4, zq5, zq6, zq1, zq2, zq3]
  refine wpAnyH_take (i := 8) (v := .pointer (some ⟨D, 0, none⟩)) rfl (by kernel_rfl) (by kernel_rfl) (by kernel_rfl) (fun _ _ _ h => h) (Or.inl ⟨by rfl, ?yr8⟩) (by assumption) ?rr8
  case yr8 => (intro wq hSw; (try simp only [zq1, zq2, zq3]); go_simp; (try with_reducible rfl); all_goals (try omega))
  case rr8 =>
  try simp only [Act.put, zq4, zq5, zq6, zq1, zq2, zq3]
  refine wpAnyH_take (i := 9) (v := .pointer (some ⟨D, 0, none⟩)) rfl (by kernel_rfl) (by kernel_rfl) (by kernel_rfl) (fun _ _ _ h => h) (Or.inl ⟨by rfl, ?yr9⟩) (by assumption) ?rr9
  case yr9 => (intro wq hSw; (try simp only [zq1, zq2, zq3]); go_simp; (try with_reducible rfl); all_goals (try omega))
  case rr9 =>
  try simp only [Act.put, zq4, zq5, zq6, zq1, zq2, zq3]
  refine wpAnyH_take (i := 10) (v := .pointer (some ⟨D, 1, none⟩)) rfl (by kernel_rfl) (by kernel_rfl) (by kernel_rfl) (fun _ _ _ h => h) (Or.inl ⟨by rfl, ?yr10⟩) (by assumption) ?rr10
  case yr10 => (intro wq hSw; (try simp only [zq1, zq2, zq3]); go_simp; (try with_reducible rfl); all_goals (try omega))
  case rr10 =>
  try simp only [Act.put, zq4, zq5, zq6, zq1, zq2, zq3]
  refine wpAnyH_take (i := 11) (v := .slice (some ⟨g, 0, none⟩) n cap) rfl (by kernel_rfl) (by kernel_rfl) (by kernel_rfl) (fun _ _ _ h => h) (Or.inl ⟨by rfl, ?yr11⟩) (by assumption) ?rr11
  case yr11 => (intro wq hSw; obtain ⟨z1, z2, z3⟩ := hSw; (try simp only [zq1, zq2, zq3]); go_simp; (try with_reducible rfl); all_goals (try omega))
  case rr11 =>
  try simp only [Act.put, zq4, zq5, zq6, zq1, zq2, zq3]
  refine wpAnyH_take (i := 12) (v := .int .i64 (i : Int)) rfl (by kernel_rfl) (by kernel_rfl) (by kernel_rfl) (fun _ _ _ h => h) (Or.inl ⟨by rfl, ?yr12⟩) (by assumption) ?rr12
  case yr12 => (intro wq hSw; (try simp only [zq1, zq2, zq3]); go_simp; (try with_reducible rfl); all_goals (try omega))
  case rr12 =>
  try simp only [Act.put, zq4, zq5, zq6, zq1, zq2, zq3]
  refine wpAnyH_take (i := 13) (v := .pointer (some ⟨g, i * 2, none⟩)) rfl (by kernel_rfl) (by kernel_rfl) (by kernel_rfl) (fun _ _ _ h => h) (Or.inl ⟨by rfl, ?yr13⟩) (by assumption) ?rr13
  case yr13 => (intro wq hSw; (try simp only [zq1, zq2, zq3]); go_simp; (try with_reducible rfl); all_goals (try omega))
  case rr13 =>
  try simp only [Act.put, zq4, zq5, zq6, zq1, zq2, zq3]
  refine wpAnyH_take (i := 14) (v := .pointer (some ⟨g, i * 2, none⟩)) rfl (by kernel_rfl) (by kernel_rfl) (by kernel_rfl) (fun _ _ _ h => h) (Or.inl ⟨by rfl, ?yr14⟩) (by assumption) ?rr14
  case yr14 => (intro wq hSw; (try simp only [zq1, zq2, zq3]); go_simp; (try with_reducible rfl); all_goals (try omega))
  case rr14 =>
  try simp only [Act.put, zq4, zq5, zq6, zq1, zq2, zq3]
  refine wpAnyH_take (i := 15) (v := .int .i64 (s1 : Int)) rfl (by kernel_rfl) (by kernel_rfl) (by kernel_rfl) (fun _ _ _ h => h) (Or.inl ⟨by rfl, ?yr15⟩) (by assumption) ?rr15
  case yr15 => (intro wq hSw; obtain ⟨z1, z2, z3⟩ := hSw; (try simp only [zq1, zq2, zq3]); go_simp; (try with_reducible rfl); all_goals (try omega))
  case rr15 =>
  try simp only [Act.put, zq4, zq5, zq6, zq1, zq2, zq3]
  refine wpAnyH_take (i := 16) (v := .pointer (some ⟨RB, 1, none⟩)) rfl (by kernel_rfl) (by kernel_rfl) (by kernel_rfl) (fun _ _ _ h => h) (Or.inl ⟨by rfl, ?yr16⟩) (by assumption) ?rr16
  case yr16 => (intro wq hSw; (try simp only [zq1, zq2, zq3]); go_simp; (try with_reducible rfl); all_goals (try omega))
  case rr16 =>
  try simp only [Act.put, zq4, zq5, zq6, zq1, zq2, zq3]
  refine wpAnyH_take (i := 17) (v := .int .i64 (e : Int)) rfl (by kernel_rfl) (by kernel_rfl) (by kernel_rfl) (fun _ _ _ h => h) (Or.inl ⟨by rfl, ?yr17⟩) (by assumption) ?rr17
  case yr17 => (intro wq hSw; obtain ⟨z1, z2, z3⟩ := hSw; (try simp only [zq1, zq2, zq3]); go_simp; (try with_reducible rfl); all_goals (try omega))
  case rr17 =>
  try simp only [Act.put, zq4, zq5, zq6, zq1, zq2, zq3]
  refine wpAnyH_take (i := 18) (v := .bool false) rfl (by kernel_rfl) (by kernel_rfl) (by kernel_rfl) (fun _ _ _ h => h) (Or.inl ⟨by rfl, ?yr18⟩) (by assumption) ?rr18
  case yr18 => (intro wq hSw; (try simp only [zq1, zq2, zq3]); go_simp; (try with_reducible rfl); all_goals (try omega))
  case rr18 =>
  try simp only [Act.put, zq4, zq5, zq6, zq1, zq2, zq3]
  refine wpAnyH_take (i := 19) (v := .bool false) rfl (by kernel_rfl) (by kernel_rfl) (by kernel_rfl) (fun _ _ _ h => h) (Or.inl ⟨by rfl, ?yr19⟩) (by assumption) ?rr19
  case yr19 => (intro wq hSw; (try simp only [zq1, zq2, zq3]); go_simp; (try with_reducible rfl); all_goals (try omega))
  case rr19 =>
  try simp only [Act.put, zq4, zq5, zq6, zq1, zq2, zq3]
  refine wpAnyH_done (by kernel_rfl) ?_ _
  go_wp2_with fail
  have HS3 := Lib.hid HS2.out.drew
  obtain ⟨w3, hw3⟩ : ∃ w3, w3 = w2.drew := ⟨_, rfl⟩
  rw [← hw3] at HS3 ⊢
  clear hw3 d1 b0 b1 hHeld
  have b0 := HS3.out.drew.box.c0
  have b1 := HS3.out.drew.box.c1
  have d1 := HS3.out.drew.map.cell1
  have hcall := in_call HS3.out.drew (k) (i) (by omega) (by rw [HN.out]; omega) (by rw [HN.out]; omega)
  obtain ⟨W, hW⟩ : ∃ W, W = w3.drew := ⟨_, rfl⟩
  have HW := Lib.hid hW
  rw [← hW] at b0 b1 d1 hcall
  rw [HV.out] at d1 hcall
  have HCALL := Lib.hid hcall
  clear hcall
  refine wp_region_held_drew (S := fun wq => wq.cell? ⟨RB, 0, none⟩ = some (.int .i64 (q1 : Int)) ∧ wq.cell? ⟨RB, 1, none⟩ = some (.int .i64 (e : Int))) (by kernel_rfl) (by rw [← hW]; exact ⟨b0, b1⟩) (fun hHeld => ?_)
  rw [← hW]
  clear hW hHeld
  have hHeld : W.cell? ⟨RB, 0, none⟩ = some (.int .i64 (q1 : Int)) ∧ W.cell? ⟨RB, 1, none⟩ = some (.int .i64 (e : Int)) := ⟨b0, b1⟩
  refine wpAnyH_take (i := 0) (v := .pointer (some ⟨D, 0, none⟩)) rfl (by kernel_rfl) (by kernel_rfl) (by kernel_rfl) (fun _ _ _ h => h) (Or.inl ⟨by rfl, ?yz0⟩) (by assumption) ?rz0
  case yz0 => (intro wq hSw; (try simp only [zq1, zq2, zq3]); go_simp; (try with_reducible rfl); all_goals (try omega))
  case rz0 =>
  try simp only [Act.put, zq4, zq5, zq6, zq1, zq2, zq3]
  refine wpAnyH_take (i := 1) (v := .pointer (some ⟨D, 0, none⟩)) rfl (by kernel_rfl) (by kernel_rfl) (by kernel_rfl) (fun _ _ _ h => h) (Or.inl ⟨by rfl, ?yz1⟩) (by assumption) ?rz1
  case yz1 => (intro wq hSw; (try simp only [zq1, zq2, zq3]); go_simp; (try with_reducible rfl); all_goals (try omega))
  case rz1 =>
  try simp only [Act.put, zq4, zq5, zq6, zq1, zq2, zq3]
  refine wpAnyH_take (i := 2) (v := .pointer (some ⟨D, 0, none⟩)) rfl (by kernel_rfl) (by kernel_rfl) (by kernel_rfl) (fun _ _ _ h => h) (Or.inl ⟨by rfl, ?yz2⟩) (by assumption) ?rz2
  case yz2 => (intro wq hSw; (try simp only [zq1, zq2, zq3]); go_simp; (try with_reducible rfl); all_goals (try omega))
  case rz2 =>
  try simp only [Act.put, zq4, zq5, zq6, zq1, zq2, zq3]
  refine wpAnyH_take (i := 3) (v := .pointer (some ⟨D, 1, none⟩)) rfl (by kernel_rfl) (by kernel_rfl) (by kernel_rfl) (fun _ _ _ h => h) (Or.inl ⟨by rfl, ?yz3⟩) (by assumption) ?rz3
  case yz3 => (intro wq hSw; (try simp only [zq1, zq2, zq3]); go_simp; (try with_reducible rfl); all_goals (try omega))
  case rz3 =>
  try simp only [Act.put, zq4, zq5, zq6, zq1, zq2, zq3]
  refine wpAnyH_take (i := 5) (v := .int .i64 ((k : Int))) rfl (by kernel_rfl) (by kernel_rfl) (by kernel_rfl) (fun _ _ _ h => h) (Or.inl ⟨by rfl, ?yz5⟩) (by assumption) ?rz5
  case yz5 => (intro wq hSw; (try simp only [zq1, zq2, zq3]); go_simp; (try with_reducible rfl); all_goals (try omega))
  case rz5 =>
  try simp only [Act.put, zq4, zq5, zq6, zq1, zq2, zq3]
  refine wpAnyH_take (i := 6) (v := .int .i64 ((i : Int))) rfl (by kernel_rfl) (by kernel_rfl) (by kernel_rfl) (fun _ _ _ h => h) (Or.inl ⟨by rfl, ?yz6⟩) (by assumption) ?rz6
  case yz6 => (intro wq hSw; (try simp only [zq1, zq2, zq3]); go_simp; (try with_reducible rfl); all_goals (try omega))
  case rz6 =>
  try simp only [Act.put, zq4, zq5, zq6, zq1, zq2, zq3]
  refine wpAnyH_take (i := 7) (v := .agg #[.int .i64 (q1 : Int), .int .i64 (e : Int)]) rfl (by kernel_rfl) (by kernel_rfl) (by kernel_rfl) (fun _ _ _ h => h) (Or.inl ⟨by rfl, ?yz7⟩) (by assumption) ?rz7
  case yz7 => (intro wq hSw; obtain ⟨z1, z2⟩ := hSw; (try simp only [zq1, zq2, zq3]); go_simp; (try with_reducible rfl); all_goals (try omega))
  case rz7 =>
  try simp only [Act.put, zq4, zq5, zq6, zq1, zq2, zq3]
  refine wpAnyH_ready (rs := [4, 8]) (by kernel_rfl) (by simp) ?_
  refine AllReadyH.cons rfl (fun K hK => ?_) (AllReadyH.cons rfl (fun K hK => ?_) AllReadyH.nil)
  · go_simp
    refine hK.out _ _ ⟨b0, b1⟩ (fun _ => ?_)
    clear hK K
    try simp only [Act.put, zq4, zq5, zq6, zq1, zq2, zq3]
    refine wpAnyH_ready (rs := [8]) (by kernel_rfl) (by simp) ?_
    refine AllReadyH.cons rfl (fun K hK => ?_) AllReadyH.nil
    go_simp
    
    refine hK.out _ _ (in_new _ b0 b1) (fun _ => ?_)
    clear hK K
    try simp only [Act.put, zq4, zq5, zq6, zq1, zq2, zq3]
    refine wpAnyH_ready (rs := [9]) (by kernel_rfl) (by simp) ?_
    refine AllReadyH.cons rfl (fun K hK => ?_) AllReadyH.nil
    go_simp
    refine (HCALL.out).mono ?_
    rintro e9 w5 ⟨v', rfl, o1, o2, o3⟩
    rw [← HV.out] at o2 o3
    have hst : InSt w W D P v L RB q1 e := by rw [HW.out]; exact HS3.out.drew
    have HM := Lib.hid (in_end hst _ o1 o2 o3)
    have HB0 := Lib.hid (in_box hst _ o3)
    have hfr : w5.frozen? ⟨D, 1, none⟩ = false := in_free hst _ o3
    obtain ⟨u0, hcl⟩ := in_some hst _ o3
    obtain ⟨va, ln, vc2, hvs⟩ := own_form o1
    clear o1 o2 o3
    subst hvs
    refine hK.out _ _ HB0.out (fun _ => ?_)
    clear hK K
    try simp only [Act.put, zq4, zq5, zq6, zq1, zq2, zq3]
    refine wpAnyH_take (i := 10) (v := .pointer (some ⟨D, 0, none⟩)) rfl (by kernel_rfl) (by kernel_rfl) (by kernel_rfl) (fun _ _ _ h => h) (Or.inl ⟨by rfl, ?yza10⟩) (by assumption) ?rza10
    case yza10 => (intro wq hSw; (try simp only [zq1, zq2, zq3]); go_simp; (try with_reducible rfl); all_goals (try omega))
    case rza10 =>
    try simp only [Act.put, zq4, zq5, zq6, zq1, zq2, zq3]
    refine wpAnyH_take (i := 11) (v := .pointer (some ⟨D, 1, none⟩)) rfl (by kernel_rfl) (by kernel_rfl) (by kernel_rfl) (fun _ _ _ h => h) (Or.inl ⟨by rfl, ?yza11⟩) (by assumption) ?rza11
    case yza11 => (intro wq hSw; (try simp only [zq1, zq2, zq3]); go_simp; (try with_reducible rfl); all_goals (try omega))
    case rza11 =>
    try simp only [Act.put, zq4, zq5, zq6, zq1, zq2, zq3]
    refine wpAnyH_ready (rs := [12]) (by kernel_rfl) (by simp) ?_
    refine AllReadyH.cons rfl (fun K hK => ?_) AllReadyH.nil
    go_simp
    
    refine hK.out _ _ (in_last hst HB0.out) (fun _ => ?_)
    clear hK K
    try simp only [Act.put, zq4, zq5, zq6, zq1, zq2, zq3]
    refine wpAnyH_done (by kernel_rfl) ?_ _
    go_end0
    exact ⟨rfl, by rw [HL'.out]; exact HM.out⟩
  · go_simp
    refine hK.out _ _ (in_new _ b0 b1) (fun _ => ?_)
    clear hK K
    have dn := in_newD (.cells #[.int .i64 (q1 : Int), .int .i64 (e : Int)] 122) d1
    try simp only [Act.put, zq4, zq5, zq6, zq1, zq2, zq3]
    refine wpAnyH_ready (rs := [4]) (by kernel_rfl) (by simp) ?_
    refine AllReadyH.cons rfl (fun K hK => ?_) AllReadyH.nil
    go_simp
    
    refine hK.out _ _ (in_new _ b0 b1) (fun _ => ?_)
    clear hK K
    try simp only [Act.put, zq4, zq5, zq6, zq1, zq2, zq3]
    refine wpAnyH_ready (rs := [9]) (by kernel_rfl) (by simp) ?_
    refine AllReadyH.cons rfl (fun K hK => ?_) AllReadyH.nil
    go_simp
    refine (HCALL.out).mono ?_
    rintro e9 w5 ⟨v', rfl, o1, o2, o3⟩
    rw [← HV.out] at o2 o3
    have hst : InSt w W D P v L RB q1 e := by rw [HW.out]; exact HS3.out.drew
    have HM := Lib.hid (in_end hst _ o1 o2 o3)
    have HB0 := Lib.hid (in_box hst _ o3)
    have hfr : w5.frozen? ⟨D, 1, none⟩ = false := in_free hst _ o3
    obtain ⟨u0, hcl⟩ := in_some hst _ o3
    obtain ⟨va, ln, vc2, hvs⟩ := own_form o1
    clear o1 o2 o3
    subst hvs
    refine hK.out _ _ HB0.out (fun _ => ?_)
    clear hK K
    try simp only [Act.put, zq4, zq5, zq6, zq1, zq2, zq3]
    refine wpAnyH_take (i := 10) (v := .pointer (some ⟨D, 0, none⟩)) rfl (by kernel_rfl) (by kernel_rfl) (by kernel_rfl) (fun _ _ _ h => h) (Or.inl ⟨by rfl, ?yzb10⟩) (by assumption) ?rzb10
    case yzb10 => (intro wq hSw; (try simp only [zq1, zq2, zq3]); go_simp; (try with_reducible rfl); all_goals (try omega))
    case rzb10 =>
    try simp only [Act.put, zq4, zq5, zq6, zq1, zq2, zq3]
    refine wpAnyH_take (i := 11) (v := .pointer (some ⟨D, 1, none⟩)) rfl (by kernel_rfl) (by kernel_rfl) (by kernel_rfl) (fun _ _ _ h => h) (Or.inl ⟨by rfl, ?yzb11⟩) (by assumption) ?rzb11
    case yzb11 => (intro wq hSw; (try simp only [zq1, zq2, zq3]); go_simp; (try with_reducible rfl); all_goals (try omega))
    case rzb11 =>
    try simp only [Act.put, zq4, zq5, zq6, zq1, zq2, zq3]
    refine wpAnyH_ready (rs := [12]) (by kernel_rfl) (by simp) ?_
    refine AllReadyH.cons rfl (fun K hK => ?_) AllReadyH.nil
    go_simp
    
    refine hK.out _ _ (in_last hst HB0.out) (fun _ => ?_)
    clear hK K
    try simp only [Act.put, zq4, zq5, zq6, zq1, zq2, zq3]
    refine wpAnyH_done (by kernel_rfl) ?_ _
    go_end0
    exact ⟨rfl, by rw [HL'.out]; exact HM.out⟩
set_option maxHeartbeats 1600000 in
set_option maxRecDepth 100000 in
theorem insert_22 (w : World) (D P : Nat) (v : Value) (L : List (Nat × Nat)) (i k a e : Nat) (h : MapIn w D P v L) (hb : L.length ≤ 6000) (hi : i ≤ L.length)
    (hk : i = k + 1) (hkl : k < L.length) (hq : L[k].2 = a) (hr : i < L.length) (hs : L[i].1 = e) :
    Calls Tryz.prog 86 #[.pointer (some ⟨D, 0, none⟩), .int .i64 (i : Int), .agg #[.int .i64 (a : Int), .int .i64 (e : Int)]] w (fun en w' => en = .returned (.tuple #[]) ∧ MPost w D P v (L.take (k) ++ [((L[k].1), (L[i].2))] ++ L.drop (i + 1)) w') := by
  obtain ⟨w1, hw1⟩ : ∃ w1, w1 = w.alloc (.cells #[.int .i64 (a : Int), .int .i64 (e : Int)] 122) := ⟨_, rfl⟩
  obtain ⟨RB, hRB⟩ : ∃ RB, RB = w.heap.size := ⟨_, rfl⟩
  have hs1 : InSt w w1 D P v L RB a e := by
    subst hw1 hRB
    exact ⟨h.none ((Turn.refl _ w).alloc _), heap_alloc_new w _, Nat.le_refl _, h, (Turn.refl _ w).alloc _⟩
  obtain ⟨av, cap, hv⟩ := own_shape h.own
  obtain ⟨g, cap1, hv1, -, -⟩ := own_get h.own hkl
  obtain ⟨hav, -⟩ : av = some ⟨g, 0, none⟩ ∧ cap1 = cap := by rw [hv] at hv1; cases hv1; exact ⟨rfl, rfl⟩
  subst hav
  have hleft : ∀ wr R x y, InSt w wr D P v L R x y → wr.cell? ⟨g, k * 2, none⟩ = some (.int .i64 (L[k].1 : Int)) ∧ wr.cell? ⟨g, k * 2 + 1, none⟩ = some (.int .i64 (L[k].2 : Int)) := fun wr R x y hh => by
    obtain ⟨g', cap', hv', c1, c2⟩ := own_get hh.map.own hkl
    rw [hv] at hv'; cases hv'
    exact ⟨c1, c2⟩
  obtain ⟨q1, hq1⟩ : ∃ q1, L[k].1 = q1 := ⟨_, rfl⟩
  obtain ⟨q2, hq2⟩ : ∃ q2, L[k].2 = q2 := ⟨_, rfl⟩
  rw [hq2] at hq
  simp only [hq1, hq2] at hleft
  rw [hq1]
  have hright : ∀ wr R x y, InSt w wr D P v L R x y → wr.cell? ⟨g, i * 2, none⟩ = some (.int .i64 (L[i].1 : Int)) ∧ wr.cell? ⟨g, i * 2 + 1, none⟩ = some (.int .i64 (L[i].2 : Int)) := fun wr R x y hh => by
    obtain ⟨g', cap', hv', c1, c2⟩ := own_get hh.map.own hr
    rw [hv] at hv'; cases hv'
    exact ⟨c1, c2⟩
  obtain ⟨s1, hs1'⟩ : ∃ s1, L[i].1 = s1 := ⟨_, rfl⟩
  obtain ⟨s2, hs2'⟩ : ∃ s2, L[i].2 = s2 := ⟨_, rfl⟩
  rw [hs1'] at hs
  simp only [hs1', hs2'] at hright
  rw [hs2']
  subst hq
  subst hs
  have HS := Lib.hid hs1
  obtain ⟨L', hL'⟩ : ∃ L', L' = L.take (k) ++ [(q1, s2)] ++ L.drop (i + 1) := ⟨_, rfl⟩
  rw [← hL']
  have HL' := Lib.hid hL'
  have hn : ∃ n, L.length = n := ⟨_, rfl⟩
  obtain ⟨n, hn⟩ := hn
  rw [hn] at hv hb hi hr hkl
  have HN := Lib.hid hn
  have HV := Lib.hid hv
  have HW1 := Lib.hid hw1
  have HRB := Lib.hid hRB
  have d1 := hs1.map.cell1
  have b0 := hs1.box.c0
  have b1 := hs1.box.c1
  rw [hv] at d1
  obtain ⟨l1, l2⟩ := hleft _ _ _ _ hs1
  have HLF := Lib.hid hleft
  have hki : (i : Int) - 1 = (k : Int) := by omega
  have hkw : IntKind.i64.wrap (k : Int) = (k : Int) := by rw [IntKind.wrap_i64]; omega
  have hp0 : (0 : Int) < (i : Int) := by omega
  have HK := Lib.hid hk
  have HRT := Lib.hid hright
  have hrI : (i : Int) < (n : Int) := by omega
  clear hs1 hn hL' hw1 hRB h hv hleft hq1 hq2 hk hv1 hright hs1' hs2'
  go_enter Tryz.func86, Tryz.ntmps86
  go_wp2_with fail
  rw [← HW1.out, ← HRB.out]
  refine wp_region_held_drew (S := fun wq => wq.cell? ⟨D, 1, none⟩ = some (.slice (some ⟨g, 0, none⟩) n cap) ∧ wq.cell? ⟨g, k * 2 + 1, none⟩ = some (.int .i64 (q2 : Int)) ∧ wq.cell? ⟨RB, 0, none⟩ = some (.int .i64 (q2 : Int))) (by kernel_rfl) ⟨d1, l2, b0⟩ (fun hHeld => ?_)
  refine wpAnyH_take (i := 0) (v := .int .i64 (i : Int)) rfl (by kernel_rfl) (by kernel_rfl) (by kernel_rfl) (fun _ _ _ h => h) (Or.inl ⟨by rfl, ?yl0⟩) (by assumption) ?rl0
  case yl0 => (intro wq hSw; (try simp only [zq1, zq2, zq3]); go_simp; (try with_reducible rfl); all_goals (try omega))
  case rl0 =>
  try simp only [Act.put, zq4, zq5, zq6, zq1, zq2, zq3]
  refine wpAnyH_take (i := 1) (v := .bool true) rfl (by kernel_rfl) (by kernel_rfl) (by kernel_rfl) (fun _ _ _ h => h) (Or.inl ⟨by rfl, ?yl1⟩) (by assumption) ?rl1
  case yl1 => (intro wq hSw; (try simp only [zq1, zq2, zq3]); go_simp; (try with_reducible rfl); all_goals (try omega))
  case rl1 =>
  try simp only [Act.put, zq4, zq5, zq6, zq1, zq2, zq3]
  refine wpAnyH_take (i := 2) (v := .bool true) rfl (by kernel_rfl) (by kernel_rfl) (by kernel_rfl) (fun _ _ _ h => h) (Or.inl ⟨by rfl, ?yl2⟩) (by assumption) ?rl2
  case yl2 => (intro wq hSw; (try simp only [zq1, zq2, zq3]); go_simp; (try with_reducible rfl); all_goals (try omega))
  case rl2 =>
  try simp only [Act.put, zq4, zq5, zq6, zq1, zq2, zq3]
  refine wpAnyH_take (i := 3) (v := .pointer (some ⟨D, 0, none⟩)) rfl (by kernel_rfl) (by kernel_rfl) (by kernel_rfl) (fun _ _ _ h => h) (Or.inl ⟨by rfl, ?yl3⟩) (by assumption) ?rl3
  case yl3 => (intro wq hSw; (try simp only [zq1, zq2, zq3]); go_simp; (try with_reducible rfl); all_goals (try omega))
  case rl3 =>
  try simp only [Act.put, zq4, zq5, zq6, zq1, zq2, zq3]
  refine wpAnyH_take (i := 4) (v := .pointer (some ⟨D, 0, none⟩)) rfl (by kernel_rfl) (by kernel_rfl) (by kernel_rfl) (fun _ _ _ h => h) (Or.inl ⟨by rfl, ?yl4⟩) (by assumption) ?rl4
  case yl4 => (intro wq hSw; (try simp only [zq1, zq2, zq3]); go_simp; (try with_reducible rfl); all_goals (try omega))
  case rl4 =>
  try simp only [Act.put, zq4, zq5, zq6, zq1, zq2, zq3]
  refine wpAnyH_take (i := 5) (v := .pointer (some ⟨D, 1, none⟩)) rfl (by kernel_rfl) (by kernel_rfl) (by kernel_rfl) (fun _ _ _ h => h) (Or.inl ⟨by rfl, ?yl5⟩) (by assumption) ?rl5
  case yl5 => (intro wq hSw; (try simp only [zq1, zq2, zq3]); go_simp; (try with_reducible rfl); all_goals (try omega))
  case rl5 =>
  try simp only [Act.put, zq4, zq5, zq6, zq1, zq2, zq3]
  refine wpAnyH_take (i := 6) (v := .slice (some ⟨g, 0, none⟩) n cap) rfl (by kernel_rfl) (by kernel_rfl) (by kernel_rfl) (fun _ _ _ h => h) (Or.inl ⟨by rfl, ?yl6⟩) (by assumption) ?rl6
  case yl6 => (intro wq hSw; obtain ⟨z1, z2, z3⟩ := hSw; (try simp only [zq1, zq2, zq3]); go_simp; (try with_reducible rfl); all_goals (try omega))
  case rl6 =>
  try simp only [Act.put, zq4, zq5, zq6, zq1, zq2, zq3]
  refine wpAnyH_take (i := 7) (v := .int .i64 (i : Int)) rfl (by kernel_rfl) (by kernel_rfl) (by kernel_rfl) (fun _ _ _ h => h) (Or.inl ⟨by rfl, ?yl7⟩) (by assumption) ?rl7
  case yl7 => (intro wq hSw; (try simp only [zq1, zq2, zq3]); go_simp; (try with_reducible rfl); all_goals (try omega))
  case rl7 =>
  try simp only [Act.put, zq4, zq5, zq6, zq1, zq2, zq3]
  refine wpAnyH_take (i := 8) (v := .int .i64 (k : Int)) rfl (by kernel_rfl) (by kernel_rfl) (by kernel_rfl) (fun _ _ _ h => h) (Or.inl ⟨by rfl, ?yl8⟩) (by assumption) ?rl8
  case yl8 => (intro wq hSw; (try simp only [zq1, zq2, zq3]); go_simp; (try with_reducible rfl); all_goals (try omega))
  case rl8 =>
  try simp only [Act.put, zq4, zq5, zq6, zq1, zq2, zq3]
  refine wpAnyH_take (i := 9) (v := .pointer (some ⟨g, k * 2, none⟩)) rfl (by kernel_rfl) (by kernel_rfl) (by kernel_rfl) (fun _ _ _ h => h) (Or.inl ⟨by rfl, ?yl9⟩) (by assumption) ?rl9
  case yl9 => (intro wq hSw; (try simp only [zq1, zq2, zq3]); go_simp; (try with_reducible rfl); all_goals (try omega))
  case rl9 =>
  try simp only [Act.put, zq4, zq5, zq6, zq1, zq2, zq3]
  refine wpAnyH_take (i := 10) (v := .pointer (some ⟨g, k * 2 + 1, none⟩)) rfl (by kernel_rfl) (by kernel_rfl) (by kernel_rfl) (fun _ _ _ h => h) (Or.inl ⟨by rfl, ?yl10⟩) (by assumption) ?rl10
  case yl10 => (intro wq hSw; (try simp only [zq1, zq2, zq3]); go_simp; (try with_reducible rfl); all_goals (try omega))
  case rl10 =>
  try simp only [Act.put, zq4, zq5, zq6, zq1, zq2, zq3]
  refine wpAnyH_take (i := 11) (v := .int .i64 (q2 : Int)) rfl (by kernel_rfl) (by kernel_rfl) (by kernel_rfl) (fun _ _ _ h => h) (Or.inl ⟨by rfl, ?yl11⟩) (by assumption) ?rl11
  case yl11 => (intro wq hSw; obtain ⟨z1, z2, z3⟩ := hSw; (try simp only [zq1, zq2, zq3]); go_simp; (try with_reducible rfl); all_goals (try omega))
  case rl11 =>
  try simp only [Act.put, zq4, zq5, zq6, zq1, zq2, zq3]
  refine wpAnyH_take (i := 12) (v := .pointer (some ⟨RB, 0, none⟩)) rfl (by kernel_rfl) (by kernel_rfl) (by kernel_rfl) (fun _ _ _ h => h) (Or.inl ⟨by rfl, ?yl12⟩) (by assumption) ?rl12
  case yl12 => (intro wq hSw; (try simp only [zq1, zq2, zq3]); go_simp; (try with_reducible rfl); all_goals (try omega))
  case rl12 =>
  try simp only [Act.put, zq4, zq5, zq6, zq1, zq2, zq3]
  refine wpAnyH_take (i := 13) (v := .int .i64 (q2 : Int)) rfl (by kernel_rfl) (by kernel_rfl) (by kernel_rfl) (fun _ _ _ h => h) (Or.inl ⟨by rfl, ?yl13⟩) (by assumption) ?rl13
  case yl13 => (intro wq hSw; obtain ⟨z1, z2, z3⟩ := hSw; (try simp only [zq1, zq2, zq3]); go_simp; (try with_reducible rfl); all_goals (try omega))
  case rl13 =>
  try simp only [Act.put, zq4, zq5, zq6, zq1, zq2, zq3]
  refine wpAnyH_take (i := 14) (v := .bool true) rfl (by kernel_rfl) (by kernel_rfl) (by kernel_rfl) (fun _ _ _ h => h) (Or.inl ⟨by rfl, ?yl14⟩) (by assumption) ?rl14
  case yl14 => (intro wq hSw; (try simp only [zq1, zq2, zq3]); go_simp; (try with_reducible rfl); all_goals (try omega))
  case rl14 =>
  try simp only [Act.put, zq4, zq5, zq6, zq1, zq2, zq3]
  refine wpAnyH_take (i := 15) (v := .bool true) rfl (by kernel_rfl) (by kernel_rfl) (by kernel_rfl) (fun _ _ _ h => h) (Or.inl ⟨by rfl, ?yl15⟩) (by assumption) ?rl15
  case yl15 => (intro wq hSw; (try simp only [zq1, zq2, zq3]); go_simp; (try with_reducible rfl); all_goals (try omega))
  case rl15 =>
  try simp only [Act.put, zq4, zq5, zq6, zq1, zq2, zq3]
  refine wpAnyH_done (by kernel_rfl) ?_ _
  have f0 := HS.out.box.free 0
  go_wp2_with fail
  have HS2 := Lib.hid ((HS.out.set0 q1).drew)
  clear f0
  obtain ⟨w2, hw2⟩ : ∃ w2, w2 = (w1.setCell ⟨RB, 0, none⟩ (.int .i64 (q1 : Int))).drew := ⟨_, rfl⟩
  rw [← hw2] at HS2 ⊢
  clear hw2 d1 b0 b1 hHeld
  have d1 := HS2.out.drew.map.cell1
  have b0 := HS2.out.drew.box.c0
  have b1 := HS2.out.drew.box.c1
  rw [HV.out] at d1
  obtain ⟨r1, r2⟩ := HRT.out _ _ _ _ HS2.out.drew
  refine wp_region_held_drew (S := fun wq => wq.cell? ⟨D, 1, none⟩ = some (.slice (some ⟨g, 0, none⟩) n cap) ∧ wq.cell? ⟨g, i * 2, none⟩ = some (.int .i64 (s1 : Int)) ∧ wq.cell? ⟨RB, 1, none⟩ = some (.int .i64 (s1 : Int))) (by kernel_rfl) ⟨d1, r1, b1⟩ (fun hHeld => ?_)
  refine wpAnyH_take (i := 0) (v := .int .i64 (i : Int)) rfl (by kernel_rfl) (by kernel_rfl) (by kernel_rfl) (fun _ _ _ h => h) (Or.inl ⟨by rfl, ?yr0⟩) (by assumption) ?rr0
  case yr0 => (intro wq hSw; (try simp only [zq1, zq2, zq3]); go_simp; (try with_reducible rfl); all_goals (try omega))
  case rr0 =>
  try simp only [Act.put, zq4, zq5, zq6, zq1, zq2, zq3]
  refine wpAnyH_take (i := 1) (v := .pointer (some ⟨D, 0, none⟩)) rfl (by kernel_rfl) (by kernel_rfl) (by kernel_rfl) (fun _ _ _ h => h) (Or.inl ⟨by rfl, ?yr1⟩) (by assumption) ?rr1
  case yr1 => (intro wq hSw; (try simp only [zq1, zq2, zq3]); go_simp; (try with_reducible rfl); all_goals (try omega))
  case rr1 =>
  try simp only [Act.put, zq4, zq5, zq6, zq1, zq2, zq3]
  refine wpAnyH_take (i := 2) (v := .pointer (some ⟨D, 0, none⟩)) rfl (by kernel_rfl) (by kernel_rfl) (by kernel_rfl) (fun _ _ _ h => h) (Or.inl ⟨by rfl, ?yr2⟩) (by assumption) ?rr2
  case yr2 => (intro wq hSw; (try simp only [zq1, zq2, zq3]); go_simp; (try with_reducible rfl); all_goals (try omega))
  case rr2 =>
  try simp only [Act.put, zq4, zq5, zq6, zq1, zq2, zq3]
  refine wpAnyH_take (i := 3) (v := .pointer (some ⟨D, 1, none⟩)) rfl (by kernel_rfl) (by kernel_rfl) (by kernel_rfl) (fun _ _ _ h => h) (Or.inl ⟨by rfl, ?yr3⟩) (by assumption) ?rr3
  case yr3 => (intro wq hSw; (try simp only [zq1, zq2, zq3]); go_simp; (try with_reducible rfl); all_goals (try omega))
  case rr3 =>
  try simp only [Act.put, zq4, zq5, zq6, zq1, zq2, zq3]
  refine wpAnyH_take (i := 4) (v := .slice (some ⟨g, 0, none⟩) n cap) rfl (by kernel_rfl) (by kernel_rfl) (by kernel_rfl) (fun _ _ _ h => h) (Or.inl ⟨by rfl, ?yr4⟩) (by assumption) ?rr4
  case yr4 => (intro wq hSw; obtain ⟨z1, z2, z3⟩ := hSw; (try simp only [zq1, zq2, zq3]); go_simp; (try with_reducible rfl); all_goals (try omega))
  case rr4 =>
  try simp only [Act.put, zq4, zq5, zq6, zq1, zq2, zq3]
  refine wpAnyH_take (i := 5) (v := .int .i64 (n : Int)) rfl (by kernel_rfl) (by kernel_rfl) (by kernel_rfl) (fun _ _ _ h => h) (Or.inl ⟨by rfl, ?yr5⟩) (by assumption) ?rr5
  case yr5 => (intro wq hSw; (try simp only [zq1, zq2, zq3]); go_simp; (try with_reducible rfl); all_goals (try omega))
  case rr5 =>
  try simp only [Act.put, zq4, zq5, zq6, zq1, zq2, zq3]
  refine wpAnyH_take (i := 6) (v := .bool true) rfl (by kernel_rfl) (by kernel_rfl) (by kernel_rfl) (fun _ _ _ h => h) (Or.inl ⟨by rfl, ?yr6⟩) (by assumption) ?rr6
  case yr6 => (intro wq hSw; (try simp only [zq1, zq2, zq3]); go_simp; (try with_reducible rfl); all_goals (try omega))
  case rr6 =>
  try simp only [Act.put, zq4, zq5, zq6, zq1, zq2, zq3]
  refine wpAnyH_take (i := 7) (v := .bool true) rfl (by kernel_rfl) (by kernel_rfl) (by kernel_rfl) (fun _ _ _ h => h) (Or.inl ⟨by rfl, ?yr7⟩) (by assumption) ?rr7
  case yr7 => (intro wq hSw; (try simp only [zq1, zq2, zq3]); go_simp; (try with_reducible rfl); all_goals (try omega))
  case rr7 =>
  try simp only [Act.put, zq4, zq5, zq6, zq1, zq2, zq3]
  refine wpAnyH_take (i := 8) (v := .pointer (some ⟨D, 0, none⟩)) rfl (by kernel_rfl) (by kernel_rfl) (by kernel_rfl) (fun _ _ _ h => h) (Or.inl ⟨by rfl, ?yr8⟩) (by assumption) ?rr8
  case yr8 => (intro wq hSw; (try simp only [zq1, zq2, zq3]); go_simp; (try with_reducible rfl); all_goals (try omega))
  case rr8 =>
  try simp only [Act.put, zq4, zq5, zq6, zq1, zq2, zq3]
  refine wpAnyH_take (i := 9) (v := .pointer (some ⟨D, 0, none⟩)) rfl (by kernel_rfl) (by kernel_rfl) (by kernel_rfl) (fun _ _ _ h => h) (Or.inl ⟨by rfl, ?yr9⟩) (by assumption) ?rr9
  case yr9 => (intro wq hSw; (try simp only [zq1, zq2, zq3]); go_simp; (try with_reducible rfl); all_goals (try omega))
  case rr9 =>
  try simp only [Act.put, zq4, zq5, zq6, zq1, zq2, zq3]
  refine wpAnyH_take (i := 10) (v := .pointer (some ⟨D, 1, none⟩)) rfl (by kernel_rfl) (by kernel_rfl) (by kernel_rfl) (fun _ _ _ h => h) (Or.inl ⟨by rfl, ?yr10⟩) (by assumption) ?rr10
  case yr10 => (intro wq hSw; (try simp only [zq1, zq2, zq3]); go_simp; (try with_reducible rfl); all_goals (try omega))
  case rr10 =>
  try simp only [Act.put, zq4, zq5, zq6, zq1, zq2, zq3]
  refine wpAnyH_take (i := 11) (v := .slice (some ⟨g, 0, none⟩) n cap) rfl (by kernel_rfl) (by kernel_rfl) (by kernel_rfl) (fun _ _ _ h => h) (Or.inl ⟨by rfl, ?yr11⟩) (by assumption) ?rr11
  case yr11 => (intro wq hSw; obtain ⟨z1, z2, z3⟩ := hSw; (try simp only [zq1, zq2, zq3]); go_simp; (try with_reducible rfl); all_goals (try omega))
  case rr11 =>
  try simp only [Act.put, zq4, zq5, zq6, zq1, zq2, zq3]
  refine wpAnyH_take (i := 12) (v := .int .i64 (i : Int)) rfl (by kernel_rfl) (by kernel_rfl) (by kernel_rfl) (fun _ _ _ h => h) (Or.inl ⟨by rfl, ?yr12⟩) (by assumption) ?rr12
  case yr12 => (intro wq hSw; (try simp only [zq1, zq2, zq3]); go_simp; (try with_reducible rfl); all_goals (try omega))
  case rr12 =>
  try simp only [Act.put, zq4, zq5, zq6, zq1, zq2, zq3]
  refine wpAnyH_take (i := 13) (v := .pointer (some ⟨g, i * 2, none⟩)) rfl (by kernel_rfl) (by kernel_rfl) (by kernel_rfl) (fun _ _ _ h => h) (Or.inl ⟨by rfl, ?yr13⟩) (by assumption) ?rr13
  case yr13 => (intro wq hSw; (try simp only [zq1, zq2, zq3]); go_simp; (try with_reducible rfl); all_goals (try omega))
  case rr13 =>
  try simp only [Act.put, zq4, zq5, zq6, zq1, zq2, zq3]
  refine wpAnyH_take (i := 14) (v := .pointer (some ⟨g, i * 2, none⟩)) rfl (by kernel_rfl) (by kernel_rfl) (by kernel_rfl) (fun _ _ _ h => h) (Or.inl ⟨by rfl, ?yr14⟩) (by assumption) ?rr14
  case yr14 => (intro wq hSw; (try simp only [zq1, zq2, zq3]); go_simp; (try with_reducible rfl); all_goals (try omega))
  case rr14 =>
  try simp only [Act.put, zq4, zq5, zq6, zq1, zq2, zq3]
  refine wpAnyH_take (i := 15) (v := .int .i64 (s1 : Int)) rfl (by kernel_rfl) (by kernel_rfl) (by kernel_rfl) (fun _ _ _ h => h) (Or.inl ⟨by rfl, ?yr15⟩) (by assumption) ?rr15
  case yr15 => (intro wq hSw; obtain ⟨z1, z2, z3⟩ := hSw; (try simp only [zq1, zq2, zq3]); go_simp; (try with_reducible rfl); all_goals (try omega))
  case rr15 =>
  try simp only [Act.put, zq4, zq5, zq6, zq1, zq2, zq3]
  refine wpAnyH_take (i := 16) (v := .pointer (some ⟨RB, 1, none⟩)) rfl (by kernel_rfl) (by kernel_rfl) (by kernel_rfl) (fun _ _ _ h => h) (Or.inl ⟨by rfl, ?yr16⟩) (by assumption) ?rr16
  case yr16 => (intro wq hSw; (try simp only [zq1, zq2, zq3]); go_simp; (try with_reducible rfl); all_goals (try omega))
  case rr16 =>
  try simp only [Act.put, zq4, zq5, zq6, zq1, zq2, zq3]
  refine wpAnyH_take (i := 17) (v := .int .i64 (s1 : Int)) rfl (by kernel_rfl) (by kernel_rfl) (by kernel_rfl) (fun _ _ _ h => h) (Or.inl ⟨by rfl, ?yr17⟩) (by assumption) ?rr17
  case yr17 => (intro wq hSw; obtain ⟨z1, z2, z3⟩ := hSw; (try simp only [zq1, zq2, zq3]); go_simp; (try with_reducible rfl); all_goals (try omega))
  case rr17 =>
  try simp only [Act.put, zq4, zq5, zq6, zq1, zq2, zq3]
  refine wpAnyH_take (i := 18) (v := .bool true) rfl (by kernel_rfl) (by kernel_rfl) (by kernel_rfl) (fun _ _ _ h => h) (Or.inl ⟨by rfl, ?yr18⟩) (by assumption) ?rr18
  case yr18 => (intro wq hSw; (try simp only [zq1, zq2, zq3]); go_simp; (try with_reducible rfl); all_goals (try omega))
  case rr18 =>
  try simp only [Act.put, zq4, zq5, zq6, zq1, zq2, zq3]
  refine wpAnyH_take (i := 19) (v := .bool true) rfl (by kernel_rfl) (by kernel_rfl) (by kernel_rfl) (fun _ _ _ h => h) (Or.inl ⟨by rfl, ?yr19⟩) (by assumption) ?rr19
  case yr19 => (intro wq hSw; (try simp only [zq1, zq2, zq3]); go_simp; (try with_reducible rfl); all_goals (try omega))
  case rr19 =>
  try simp only [Act.put, zq4, zq5, zq6, zq1, zq2, zq3]
  refine wpAnyH_done (by kernel_rfl) ?_ _
  have f1 := HS2.out.box.free 1
  go_wp2_with fail
  have HS3 := Lib.hid ((HS2.out.set1 s2).drew)
  clear f1
  obtain ⟨w3, hw3⟩ : ∃ w3, w3 = (w2.setCell ⟨RB, 1, none⟩ (.int .i64 (s2 : Int))).drew := ⟨_, rfl⟩
  rw [← hw3] at HS3 ⊢
  clear hw3 d1 b0 b1 hHeld
  have b0 := HS3.out.drew.box.c0
  have b1 := HS3.out.drew.box.c1
  have d1 := HS3.out.drew.map.cell1
  have hcall := in_call HS3.out.drew (k) (i + 1) (by omega) (by rw [HN.out]; omega) (by rw [HN.out]; omega)
  obtain ⟨W, hW⟩ : ∃ W, W = w3.drew := ⟨_, rfl⟩
  have HW := Lib.hid hW
  rw [← hW] at b0 b1 d1 hcall
  rw [HV.out] at d1 hcall
  rw [Int.natCast_add i 1] at hcall
  have HCALL := Lib.hid hcall
  clear hcall
  refine wp_region_held_drew (S := fun wq => wq.cell? ⟨RB, 0, none⟩ = some (.int .i64 (q1 : Int)) ∧ wq.cell? ⟨RB, 1, none⟩ = some (.int .i64 (s2 : Int))) (by kernel_rfl) (by rw [← hW]; exact ⟨b0, b1⟩) (fun hHeld => ?_)
  rw [← hW]
  clear hW hHeld
  have hHeld : W.cell? ⟨RB, 0, none⟩ = some (.int .i64 (q1 : Int)) ∧ W.cell? ⟨RB, 1, none⟩ = some (.int .i64 (s2 : Int)) := ⟨b0, b1⟩
  refine wpAnyH_take (i := 0) (v := .pointer (some ⟨D, 0, none⟩)) rfl (by kernel_rfl) (by kernel_rfl) (by kernel_rfl) (fun _ _ _ h => h) (Or.inl ⟨by rfl, ?yz0⟩) (by assumption) ?rz0
  case yz0 => (intro wq hSw; (try simp only [zq1, zq2, zq3]); go_simp; (try with_reducible rfl); all_goals (try omega))
  case rz0 =>
  try simp only [Act.put, zq4, zq5, zq6, zq1, zq2, zq3]
  refine wpAnyH_take (i := 1) (v := .pointer (some ⟨D, 0, none⟩)) rfl (by kernel_rfl) (by kernel_rfl) (by kernel_rfl) (fun _ _ _ h => h) (Or.inl ⟨by rfl, ?yz1⟩) (by assumption) ?rz1
  case yz1 => (intro wq hSw; (try simp only [zq1, zq2, zq3]); go_simp; (try with_reducible rfl); all_goals (try omega))
  case rz1 =>
  try simp only [Act.put, zq4, zq5, zq6, zq1, zq2, zq3]
  refine wpAnyH_take (i := 2) (v := .pointer (some ⟨D, 0, none⟩)) rfl (by kernel_rfl) (by kernel_rfl) (by kernel_rfl) (fun _ _ _ h => h) (Or.inl ⟨by rfl, ?yz2⟩) (by assumption) ?rz2
  case yz2 => (intro wq hSw; (try simp only [zq1, zq2, zq3]); go_simp; (try with_reducible rfl); all_goals (try omega))
  case rz2 =>
  try simp only [Act.put, zq4, zq5, zq6, zq1, zq2, zq3]
  refine wpAnyH_take (i := 3) (v := .pointer (some ⟨D, 1, none⟩)) rfl (by kernel_rfl) (by kernel_rfl) (by kernel_rfl) (fun _ _ _ h => h) (Or.inl ⟨by rfl, ?yz3⟩) (by assumption) ?rz3
  case yz3 => (intro wq hSw; (try simp only [zq1, zq2, zq3]); go_simp; (try with_reducible rfl); all_goals (try omega))
  case rz3 =>
  try simp only [Act.put, zq4, zq5, zq6, zq1, zq2, zq3]
  refine wpAnyH_take (i := 5) (v := .int .i64 ((k : Int))) rfl (by kernel_rfl) (by kernel_rfl) (by kernel_rfl) (fun _ _ _ h => h) (Or.inl ⟨by rfl, ?yz5⟩) (by assumption) ?rz5
  case yz5 => (intro wq hSw; (try simp only [zq1, zq2, zq3]); go_simp; (try with_reducible rfl); all_goals (try omega))
  case rz5 =>
  try simp only [Act.put, zq4, zq5, zq6, zq1, zq2, zq3]
  refine wpAnyH_take (i := 6) (v := .int .i64 ((i : Int) + 1)) rfl (by kernel_rfl) (by kernel_rfl) (by kernel_rfl) (fun _ _ _ h => h) (Or.inl ⟨by rfl, ?yz6⟩) (by assumption) ?rz6
  case yz6 => (intro wq hSw; (try simp only [zq1, zq2, zq3]); go_simp; (try with_reducible rfl); all_goals (try omega))
  case rz6 =>
  try simp only [Act.put, zq4, zq5, zq6, zq1, zq2, zq3]
  refine wpAnyH_take (i := 7) (v := .agg #[.int .i64 (q1 : Int), .int .i64 (s2 : Int)]) rfl (by kernel_rfl) (by kernel_rfl) (by kernel_rfl) (fun _ _ _ h => h) (Or.inl ⟨by rfl, ?yz7⟩) (by assumption) ?rz7
  case yz7 => (intro wq hSw; obtain ⟨z1, z2⟩ := hSw; (try simp only [zq1, zq2, zq3]); go_simp; (try with_reducible rfl); all_goals (try omega))
  case rz7 =>
  try simp only [Act.put, zq4, zq5, zq6, zq1, zq2, zq3]
  refine wpAnyH_ready (rs := [4, 8]) (by kernel_rfl) (by simp) ?_
  refine AllReadyH.cons rfl (fun K hK => ?_) (AllReadyH.cons rfl (fun K hK => ?_) AllReadyH.nil)
  · go_simp
    refine hK.out _ _ ⟨b0, b1⟩ (fun _ => ?_)
    clear hK K
    try simp only [Act.put, zq4, zq5, zq6, zq1, zq2, zq3]
    refine wpAnyH_ready (rs := [8]) (by kernel_rfl) (by simp) ?_
    refine AllReadyH.cons rfl (fun K hK => ?_) AllReadyH.nil
    go_simp
    
    refine hK.out _ _ (in_new _ b0 b1) (fun _ => ?_)
    clear hK K
    try simp only [Act.put, zq4, zq5, zq6, zq1, zq2, zq3]
    refine wpAnyH_ready (rs := [9]) (by kernel_rfl) (by simp) ?_
    refine AllReadyH.cons rfl (fun K hK => ?_) AllReadyH.nil
    go_simp
    refine (HCALL.out).mono ?_
    rintro e9 w5 ⟨v', rfl, o1, o2, o3⟩
    rw [← HV.out] at o2 o3
    have hst : InSt w W D P v L RB q1 s2 := by rw [HW.out]; exact HS3.out.drew
    have HM := Lib.hid (in_end hst _ o1 o2 o3)
    have HB0 := Lib.hid (in_box hst _ o3)
    have hfr : w5.frozen? ⟨D, 1, none⟩ = false := in_free hst _ o3
    obtain ⟨u0, hcl⟩ := in_some hst _ o3
    obtain ⟨va, ln, vc2, hvs⟩ := own_form o1
    clear o1 o2 o3
    subst hvs
    refine hK.out _ _ HB0.out (fun _ => ?_)
    clear hK K
    try simp only [Act.put, zq4, zq5, zq6, zq1, zq2, zq3]
    refine wpAnyH_take (i := 10) (v := .pointer (some ⟨D, 0, none⟩)) rfl (by kernel_rfl) (by kernel_rfl) (by kernel_rfl) (fun _ _ _ h => h) (Or.inl ⟨by rfl, ?yza10⟩) (by assumption) ?rza10
    case yza10 => (intro wq hSw; (try simp only [zq1, zq2, zq3]); go_simp; (try with_reducible rfl); all_goals (try omega))
    case rza10 =>
    try simp only [Act.put, zq4, zq5, zq6, zq1, zq2, zq3]
    refine wpAnyH_take (i := 11) (v := .pointer (some ⟨D, 1, none⟩)) rfl (by kernel_rfl) (by kernel_rfl) (by kernel_rfl) (fun _ _ _ h => h) (Or.inl ⟨by rfl, ?yza11⟩) (by assumption) ?rza11
    case yza11 => (intro wq hSw; (try simp only [zq1, zq2, zq3]); go_simp; (try with_reducible rfl); all_goals (try omega))
    case rza11 =>
    try simp only [Act.put, zq4, zq5, zq6, zq1, zq2, zq3]
    refine wpAnyH_ready (rs := [12]) (by kernel_rfl) (by simp) ?_
    refine AllReadyH.cons rfl (fun K hK => ?_) AllReadyH.nil
    go_simp
    
    refine hK.out _ _ (in_last hst HB0.out) (fun _ => ?_)
    clear hK K
    try simp only [Act.put, zq4, zq5, zq6, zq1, zq2, zq3]
    refine wpAnyH_done (by kernel_rfl) ?_ _
    go_end0
    exact ⟨rfl, by rw [HL'.out]; exact HM.out⟩
  · go_simp
    refine hK.out _ _ (in_new _ b0 b1) (fun _ => ?_)
    clear hK K
    have dn := in_newD (.cells #[.int .i64 (q1 : Int), .int .i64 (s2 : Int)] 122) d1
    try simp only [Act.put, zq4, zq5, zq6, zq1, zq2, zq3]
    refine wpAnyH_ready (rs := [4]) (by kernel_rfl) (by simp) ?_
    refine AllReadyH.cons rfl (fun K hK => ?_) AllReadyH.nil
    go_simp
    
    refine hK.out _ _ (in_new _ b0 b1) (fun _ => ?_)
    clear hK K
    try simp only [Act.put, zq4, zq5, zq6, zq1, zq2, zq3]
    refine wpAnyH_ready (rs := [9]) (by kernel_rfl) (by simp) ?_
    refine AllReadyH.cons rfl (fun K hK => ?_) AllReadyH.nil
    go_simp
    refine (HCALL.out).mono ?_
    rintro e9 w5 ⟨v', rfl, o1, o2, o3⟩
    rw [← HV.out] at o2 o3
    have hst : InSt w W D P v L RB q1 s2 := by rw [HW.out]; exact HS3.out.drew
    have HM := Lib.hid (in_end hst _ o1 o2 o3)
    have HB0 := Lib.hid (in_box hst _ o3)
    have hfr : w5.frozen? ⟨D, 1, none⟩ = false := in_free hst _ o3
    obtain ⟨u0, hcl⟩ := in_some hst _ o3
    obtain ⟨va, ln, vc2, hvs⟩ := own_form o1
    clear o1 o2 o3
    subst hvs
    refine hK.out _ _ HB0.out (fun _ => ?_)
    clear hK K
    try simp only [Act.put, zq4, zq5, zq6, zq1, zq2, zq3]
    refine wpAnyH_take (i := 10) (v := .pointer (some ⟨D, 0, none⟩)) rfl (by kernel_rfl) (by kernel_rfl) (by kernel_rfl) (fun _ _ _ h => h) (Or.inl ⟨by rfl, ?yzb10⟩) (by assumption) ?rzb10
    case yzb10 => (intro wq hSw; (try simp only [zq1, zq2, zq3]); go_simp; (try with_reducible rfl); all_goals (try omega))
    case rzb10 =>
    try simp only [Act.put, zq4, zq5, zq6, zq1, zq2, zq3]
    refine wpAnyH_take (i := 11) (v := .pointer (some ⟨D, 1, none⟩)) rfl (by kernel_rfl) (by kernel_rfl) (by kernel_rfl) (fun _ _ _ h => h) (Or.inl ⟨by rfl, ?yzb11⟩) (by assumption) ?rzb11
    case yzb11 => (intro wq hSw; (try simp only [zq1, zq2, zq3]); go_simp; (try with_reducible rfl); all_goals (try omega))
    case rzb11 =>
    try simp only [Act.put, zq4, zq5, zq6, zq1, zq2, zq3]
    refine wpAnyH_ready (rs := [12]) (by kernel_rfl) (by simp) ?_
    refine AllReadyH.cons rfl (fun K hK => ?_) AllReadyH.nil
    go_simp
    
    refine hK.out _ _ (in_last hst HB0.out) (fun _ => ?_)
    clear hK K
    try simp only [Act.put, zq4, zq5, zq6, zq1, zq2, zq3]
    refine wpAnyH_done (by kernel_rfl) ?_ _
    go_end0
    exact ⟨rfl, by rw [HL'.out]; exact HM.out⟩
end Go.Proofs.YtboofamenpcnhaaGreatDoor
