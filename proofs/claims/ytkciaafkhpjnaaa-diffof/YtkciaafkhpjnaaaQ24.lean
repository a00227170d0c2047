/- Own texts, packed: Sq, Al. No statement is proved here. -/
import Derived.Test.YtkciaafkhpjnaaaQ22
import Derived.Test.YtkciaafkhpjnaaaQ23
import Derived.Test.YtkciaafkhpjnaaaQ20
import Derived.Test.YtkciaafkhpjnaaaQ21
import Derived.Shelf.SlSortCmp.NoneTotal
import Derived.Deep.RegionHeld3
namespace Go.Proofs.Ytkciaafkhpjnaaa
set_option maxRecDepth 100000
open Go.RowKit
set_option linter.unusedVariables false
set_option linter.unusedSimpArgs false

instance : Inhabited Tn := ⟨tn0⟩
def orI (a b : Int) : Int := if a = 0 then b else a
def cfT (x y : Tn) : Int := orI (cmpI (x.r : Int) (y.r : Int)) (cmpI x.e.id y.e.id)
theorem cfT_neg (x y : Tn) : cfT x y < 0 ↔ TnLt x y := by
  unfold cfT orI TnLt
  have h1 := @cmpI_lt (x.r : Int) (y.r : Int)
  have h2 := @cmpI_eq (x.r : Int) (y.r : Int)
  have h3 := @cmpI_lt x.e.id y.e.id
  split
  · rename_i h
    rw [h2] at h
    rw [h3]
    omega
  · rename_i h
    rw [h1]
    rw [h2] at h
    omega
theorem swoT : Sort.SWO (ltOf cfT) where
  irrefl x := by
    unfold ltOf
    rw [decide_eq_false_iff_not, cfT_neg]
    unfold TnLt; omega
  trans x y z h1 h2 := by
    unfold ltOf at *
    rw [decide_eq_true_eq, cfT_neg] at *
    unfold TnLt at *; omega
  ntrans x y z h1 h2 := by
    unfold ltOf at *
    rw [decide_eq_false_iff_not, cfT_neg] at *
    unfold TnLt at *; omega
theorem run_buildI2 (a b : Int) (w : World) : (Instr.buildSlice 45 2 #[(0, .int .i64 a), (1, .int .i64 b)]).run Try.prog w = .ok (.slice (some ⟨w.heap.size, 0, none⟩) 2 2) (w.alloc (.cells #[.int .i64 a, .int .i64 b] 3)) := by
  kernel_rfl
theorem exec_buildI2 (ev : Operand → Value) (op : Oper) (x y : Operand) (ho : op.op = .buildSlice 45 2 #[(0, x), (1, y)]) (a b : Int) (hx : ev x = .int .i64 a) (hy : ev y = .int .i64 b) (w : World) : (execOp ev op).run Try.prog w = .ok (.value (.slice (some ⟨w.heap.size, 0, none⟩) 2 2)) (w.alloc (.cells #[.int .i64 a, .int .i64 b] 3)) := by
  have h := run_buildI2 a b w
  unfold execOp
  simp only [ho, hx, hy, Sem.run_bind, Sem.run_pure, Result.andThen_ok, List.map_toArray, List.map_cons, List.map_nil, h]
theorem or_any (a b : Int) (g : Nat) (w : World) (h0 : w.cell? ⟨g, 0, none⟩ = some (.int .i64 a)) (h1 : w.cell? ⟨g, 1, none⟩ = some (.int .i64 b)) : Calls Try.prog 45 #[.slice (some ⟨g, 0, none⟩) 2 2] w fun e w' => e = .returned (.int .i64 (orI a b)) ∧ w = w' := by
  go_enter Try.func45, Try.ntmps45
  go_wp2_with fail
  go_loopw [8] (fun iv wr => ∃ k : Nat, k ≤ 2 ∧ iv = .int .i64 (k : Int) ∧ (0 < k → a = 0) ∧ (1 < k → b = 0) ∧ w = wr) (fun iv _ => 2 - (intOf iv).toNat)
  case atStart => exact ⟨0, by omega, rfl, by omega, by omega, rfl⟩
  case round =>
    obtain ⟨k, hk, rfl, ha, hb, rfl⟩ := hrel
    rcases (show k = 0 ∨ k = 1 ∨ k = 2 by omega) with rfl | rfl | rfl
    · by_cases h : a = 0
      · have q : (a != 0) = false := by simpa using h
        go_wp2_with fail
        go_roundw
        case rel => exact ⟨1, by omega, rfl, fun _ => h, by omega, trivial⟩
        case measure => simp [intOf]
      · have q : (a != 0) = true := by simpa using h
        have HO := Lib.hid (show orI a b = a by unfold orI; rw [if_neg h])
        clear h
        go_wp2_with fail
        go_ret
        exact ⟨by rw [HO.out]; rfl, rfl⟩
    · have ha0 := ha (by omega)
      by_cases h : b = 0
      · have q : (b != 0) = false := by simpa using h
        have HB0 := Lib.hid h
        have HA0 := Lib.hid ha0
        clear h ha0 ha hb
        go_wp2_with fail
        go_roundw
        case rel => exact ⟨2, by omega, rfl, fun _ => HA0.out, fun _ => HB0.out, trivial⟩
        case measure => simp [intOf]
      · have q : (b != 0) = true := by simpa using h
        have HO := Lib.hid (show orI a b = b by unfold orI; rw [if_pos ha0])
        clear h ha0 ha hb
        go_wp2_with fail
        go_ret
        exact ⟨by rw [HO.out]; rfl, rfl⟩
    · have HO := Lib.hid (show orI a b = 0 by unfold orI; rw [if_pos (ha (by omega)), hb (by omega)])
      clear ha hb
      go_wp2_with fail
      go_ret
      exact ⟨by rw [HO.out]; rfl, rfl⟩
set_option maxHeartbeats 4000000 in
theorem clos_tn (x y : Tn) (W : World) : Calls Try.prog 44 #[.agg x.vals.toArray, .agg y.vals.toArray] W fun e w' => e = .returned (.int .i64 (cfT x y)) ∧ ∃ q os', w' = Sort.grow (W.drewN q) os' := by
  obtain ⟨X, hX⟩ : ∃ X, W.heap.size = X := ⟨_, rfl⟩
  obtain ⟨w1, hw1⟩ : ∃ w1, W.alloc (.cells x.vals.toArray 86) = w1 := ⟨_, rfl⟩
  obtain ⟨Y, hY⟩ : ∃ Y, w1.heap.size = Y := ⟨_, rfl⟩
  obtain ⟨w2, hw2⟩ : ∃ w2, w1.alloc (.cells y.vals.toArray 86) = w2 := ⟨_, rfl⟩
  obtain ⟨wd, hwd⟩ : ∃ wd, w2.drew = wd := ⟨_, rfl⟩
  have b1 := box_alloc W 86 x.vals
  rw [hw1] at b1
  have h1 := b1.heap
  rw [hX] at h1
  have b2 := box_alloc w1 86 y.vals
  rw [hw2] at b2
  have h2 := b2.heap
  rw [hY] at h2
  have h1' := (b2.turn.block X (Array.getElem?_eq_some_iff.1 h1).1 id).trans h1
  have hd : Turn (fun _ => False) w2 wd := by rw [← hwd]; exact (Turn.refl _ w2).drew
  have RX := Lib.hid (range_of ((hd.block X (Array.getElem?_eq_some_iff.1 h1').1 id).trans h1'))
  have RY := Lib.hid (range_of ((hd.block Y (Array.getElem?_eq_some_iff.1 h2).1 id).trans h2))
  obtain ⟨B, hB⟩ : ∃ B, wd.heap.size = B := ⟨_, rfl⟩
  obtain ⟨w3, hw3⟩ : ∃ w3, wd.alloc (.cells #[.int .i64 (cmpI (x.r : Int) (y.r : Int)), .int .i64 (cmpI x.e.id y.e.id)] 3) = w3 := ⟨_, rfl⟩
  have b3 := box_alloc wd 3 [.int .i64 (cmpI (x.r : Int) (y.r : Int)), .int .i64 (cmpI x.e.id y.e.id)]
  rw [show wd.alloc (.cells [Value.int .i64 (cmpI (x.r : Int) (y.r : Int)), .int .i64 (cmpI x.e.id y.e.id)].toArray 3) = w3 from hw3] at b3
  have h3 := b3.heap
  rw [hB] at h3
  have C0 := Lib.hid (show w3.cell? ⟨B, 0, none⟩ = some (.int .i64 (cmpI (x.r : Int) (y.r : Int))) from range_of h3 0 _ rfl)
  have C1 := Lib.hid (show w3.cell? ⟨B, 1, none⟩ = some (.int .i64 (cmpI x.e.id y.e.id)) from range_of h3 1 _ rfl)
  have T3 := Lib.hid b3.turn
  have HG := Lib.hid (show ∃ q os', w3 = Sort.grow (W.drewN q) os' from ⟨1, _, by rw [← hw3, ← hwd, ← hw2, ← hw1, Sort.alloc_eq_grow, Sort.alloc_eq_grow, Sort.alloc_eq_grow, Sort.grow_grow, Sort.drew_grow, Sort.grow_grow]; rfl⟩)
  have hx1 : ∀ ev op x', op.op = .box 86 x' → ev x' = .agg x.vals.toArray → (execOp ev op).run Try.prog W = .ok (.value (.pointer (some ⟨X, 0, none⟩))) w1 := fun ev op x' ho hx => by
    rw [← hw1, ← hX]; unfold execOp; simp only [ho, hx]; kernel_rfl
  have hx2 : ∀ ev op x', op.op = .box 86 x' → ev x' = .agg y.vals.toArray → (execOp ev op).run Try.prog w1 = .ok (.value (.pointer (some ⟨Y, 0, none⟩))) w2 := fun ev op x' ho hx => by
    rw [← hw2, ← hY]; unfold execOp; simp only [ho, hx]; kernel_rfl
  have hbs : ∀ ev op x' y', op.op = .buildSlice 45 2 #[(0, x'), (1, y')] → ev x' = .int .i64 (cmpI (x.r : Int) (y.r : Int)) → ev y' = .int .i64 (cmpI x.e.id y.e.id) → (execOp ev op).run Try.prog wd = .ok (.value (.slice (some ⟨B, 0, none⟩) 2 2)) w3 := fun ev op x' y' ho hx hy => by
    rw [← hw3, ← hB]; exact exec_buildI2 ev op x' y' ho _ _ hx hy wd
  have HX1 := Lib.hid hx1
  have HX2 := Lib.hid hx2
  have HBS := Lib.hid hbs
  have HWD := Lib.hid hwd
  clear hx1 hx2 hbs hwd b1 b2 b3 h1 h2 h3 h1' hd hw1 hw2 hw3 hX hY hB
  go_enter Try.func44, Try.ntmps44
  go_wp2_with (with_reducible (show wpList _ _ _ (Oper.mk (some 2) (.box 86 _) _ _ _ _ :: _) _ _); refine still ?_)
  refine list_exec rfl _ _ (HX1.out _ _ (.tmp 0) rfl rfl) ?_
  go_wp2_with (with_reducible (show wpList _ _ _ (Oper.mk (some 3) (.box 86 _) _ _ _ _ :: _) _ _); refine still ?_)
  refine list_exec rfl _ _ (HX2.out _ _ (.tmp 1) rfl rfl) ?_
  go_wp2_with fail
  refine wp_region_held_drew (S := fun wq => wq.rangeAt X 0 x.vals ∧ wq.rangeAt Y 0 y.vals) (by kernel_rfl) (by rw [HWD.out]; exact ⟨RX.out, RY.out⟩) (fun hHeld => ?_)
  rw [HWD.out] at hHeld ⊢
  refine wpAnyH_take (i := 0) (v := .pointer (some ⟨X, 10, none⟩)) rfl (by kernel_rfl) (by kernel_rfl) (by kernel_rfl) (fun _ _ _ h => h) (Or.inl ⟨by rfl, ?yq1⟩) (by assumption) ?rq1
  case yq1 => (intro wq hSw; (try simp only [List.getElem_toArray, List.getElem_cons_zero, List.getElem_cons_succ]); go_simp; (try with_reducible rfl); all_goals (try omega))
  case rq1 =>
  try simp only [Act.put, List.setIfInBounds_toArray, List.set_cons_zero, List.set_cons_succ, List.getElem_toArray, List.getElem_cons_zero, List.getElem_cons_succ]
  refine wpAnyH_take (i := 1) (v := .int .i64 (x.r : Int)) rfl (by kernel_rfl) (by kernel_rfl) (by kernel_rfl) (fun _ _ _ h => h) (Or.inl ⟨by rfl, ?yq2⟩) (by assumption) ?rq2
  case yq2 => (intro wq hSw; have z : wq.cell? ⟨X, 10, none⟩ = some (.int .i64 (x.r : Int)) := hSw.1 10 _ rfl; (try simp only [List.getElem_toArray, List.getElem_cons_zero, List.getElem_cons_succ]); go_simp)
  case rq2 =>
  try simp only [Act.put, List.setIfInBounds_toArray, List.set_cons_zero, List.set_cons_succ, List.getElem_toArray, List.getElem_cons_zero, List.getElem_cons_succ]
  refine wpAnyH_take (i := 2) (v := .pointer (some ⟨Y, 10, none⟩)) rfl (by kernel_rfl) (by kernel_rfl) (by kernel_rfl) (fun _ _ _ h => h) (Or.inl ⟨by rfl, ?yq3⟩) (by assumption) ?rq3
  case yq3 => (intro wq hSw; (try simp only [List.getElem_toArray, List.getElem_cons_zero, List.getElem_cons_succ]); go_simp; (try with_reducible rfl); all_goals (try omega))
  case rq3 =>
  try simp only [Act.put, List.setIfInBounds_toArray, List.set_cons_zero, List.set_cons_succ, List.getElem_toArray, List.getElem_cons_zero, List.getElem_cons_succ]
  refine wpAnyH_take (i := 3) (v := .int .i64 (y.r : Int)) rfl (by kernel_rfl) (by kernel_rfl) (by kernel_rfl) (fun _ _ _ h => h) (Or.inl ⟨by rfl, ?yq4⟩) (by assumption) ?rq4
  case yq4 => (intro wq hSw; have z : wq.cell? ⟨Y, 10, none⟩ = some (.int .i64 (y.r : Int)) := hSw.2 10 _ rfl; (try simp only [List.getElem_toArray, List.getElem_cons_zero, List.getElem_cons_succ]); go_simp)
  case rq4 =>
  try simp only [Act.put, List.setIfInBounds_toArray, List.set_cons_zero, List.set_cons_succ, List.getElem_toArray, List.getElem_cons_zero, List.getElem_cons_succ]
  refine wpAnyH_take (i := 5) (v := .pointer (some ⟨X, 0, none⟩)) rfl (by kernel_rfl) (by kernel_rfl) (by kernel_rfl) (fun _ _ _ h => h) (Or.inl ⟨by rfl, ?yq5⟩) (by assumption) ?rq5
  case yq5 => (intro wq hSw; (try simp only [List.getElem_toArray, List.getElem_cons_zero, List.getElem_cons_succ]); go_simp; (try with_reducible rfl); all_goals (try omega))
  case rq5 =>
  try simp only [Act.put, List.setIfInBounds_toArray, List.set_cons_zero, List.set_cons_succ, List.getElem_toArray, List.getElem_cons_zero, List.getElem_cons_succ]
  refine wpAnyH_take (i := 6) (v := .pointer (some ⟨X, 0, none⟩)) rfl (by kernel_rfl) (by kernel_rfl) (by kernel_rfl) (fun _ _ _ h => h) (Or.inl ⟨by rfl, ?yq6⟩) (by assumption) ?rq6
  case yq6 => (intro wq hSw; (try simp only [List.getElem_toArray, List.getElem_cons_zero, List.getElem_cons_succ]); go_simp; (try with_reducible rfl); all_goals (try omega))
  case rq6 =>
  try simp only [Act.put, List.setIfInBounds_toArray, List.set_cons_zero, List.set_cons_succ, List.getElem_toArray, List.getElem_cons_zero, List.getElem_cons_succ]
  refine wpAnyH_take (i := 7) (v := .int .i64 x.e.id) rfl (by kernel_rfl) (by kernel_rfl) (by kernel_rfl) (fun _ _ _ h => h) (Or.inl ⟨by rfl, ?yq7⟩) (by assumption) ?rq7
  case yq7 => (intro wq hSw; have z : wq.cell? ⟨X, 0, none⟩ = some (.int .i64 x.e.id) := hSw.1 0 _ rfl; (try simp only [List.getElem_toArray, List.getElem_cons_zero, List.getElem_cons_succ]); go_simp)
  case rq7 =>
  try simp only [Act.put, List.setIfInBounds_toArray, List.set_cons_zero, List.set_cons_succ, List.getElem_toArray, List.getElem_cons_zero, List.getElem_cons_succ]
  refine wpAnyH_take (i := 8) (v := .pointer (some ⟨Y, 0, none⟩)) rfl (by kernel_rfl) (by kernel_rfl) (by kernel_rfl) (fun _ _ _ h => h) (Or.inl ⟨by rfl, ?yq8⟩) (by assumption) ?rq8
  case yq8 => (intro wq hSw; (try simp only [List.getElem_toArray, List.getElem_cons_zero, List.getElem_cons_succ]); go_simp; (try with_reducible rfl); all_goals (try omega))
  case rq8 =>
  try simp only [Act.put, List.setIfInBounds_toArray, List.set_cons_zero, List.set_cons_succ, List.getElem_toArray, List.getElem_cons_zero, List.getElem_cons_succ]
  refine wpAnyH_take (i := 9) (v := .pointer (some ⟨Y, 0, none⟩)) rfl (by kernel_rfl) (by kernel_rfl) (by kernel_rfl) (fun _ _ _ h => h) (Or.inl ⟨by rfl, ?yq9⟩) (by assumption) ?rq9
  case yq9 => (intro wq hSw; (try simp only [List.getElem_toArray, List.getElem_cons_zero, List.getElem_cons_succ]); go_simp; (try with_reducible rfl); all_goals (try omega))
  case rq9 =>
  try simp only [Act.put, List.setIfInBounds_toArray, List.set_cons_zero, List.set_cons_succ, List.getElem_toArray, List.getElem_cons_zero, List.getElem_cons_succ]
  refine wpAnyH_take (i := 10) (v := .int .i64 y.e.id) rfl (by kernel_rfl) (by kernel_rfl) (by kernel_rfl) (fun _ _ _ h => h) (Or.inl ⟨by rfl, ?yq10⟩) (by assumption) ?rq10
  case yq10 => (intro wq hSw; have z : wq.cell? ⟨Y, 0, none⟩ = some (.int .i64 y.e.id) := hSw.2 0 _ rfl; (try simp only [List.getElem_toArray, List.getElem_cons_zero, List.getElem_cons_succ]); go_simp)
  case rq10 =>
  try simp only [Act.put, List.setIfInBounds_toArray, List.set_cons_zero, List.set_cons_succ, List.getElem_toArray, List.getElem_cons_zero, List.getElem_cons_succ]
  refine wpAnyH_ready (rs := [4]) (by kernel_rfl) (by simp) ?_
  refine AllReadyH.cons rfl (fun K hK => ?_) AllReadyH.nil
  go_simp
  refine (cmp_any _ _ _).mono ?_
  rintro e w5 ⟨rfl, rfl⟩
  refine hK.out _ _ ⟨RX.out, RY.out⟩ (fun _ => ?_)
  clear hK K
  try simp only [Act.put, List.setIfInBounds_toArray, List.set_cons_zero, List.set_cons_succ, List.getElem_toArray, List.getElem_cons_zero, List.getElem_cons_succ]
  refine wpAnyH_ready (rs := [11]) (by kernel_rfl) (by simp) ?_
  refine AllReadyH.cons rfl (fun K hK => ?_) AllReadyH.nil
  go_simp
  refine (cmp_any _ _ _).mono ?_
  rintro e w5 ⟨rfl, rfl⟩
  refine hK.out _ _ ⟨RX.out, RY.out⟩ (fun _ => ?_)
  clear hK K
  try simp only [Act.put, List.setIfInBounds_toArray, List.set_cons_zero, List.set_cons_succ, List.getElem_toArray, List.getElem_cons_zero, List.getElem_cons_succ]
  refine wpAnyH_ready (rs := [12]) (by kernel_rfl) (by simp) ?_
  refine AllReadyH.cons rfl (fun K hK => ?_) AllReadyH.nil
  refine oper_exec _ _ (HBS.out _ _ (.tmp 9) (.tmp 16) rfl rfl rfl) ?_
  refine hK.out _ _ ⟨rangeAt_turn RX.out T3.out id, rangeAt_turn RY.out T3.out id⟩ (fun _ => ?_)
  clear hK K
  try simp only [Act.put, List.setIfInBounds_toArray, List.set_cons_zero, List.set_cons_succ, List.getElem_toArray, List.getElem_cons_zero, List.getElem_cons_succ]
  refine wpAnyH_ready (rs := [13]) (by kernel_rfl) (by simp) ?_
  refine AllReadyH.cons rfl (fun K hK => ?_) AllReadyH.nil
  go_simp
  refine (or_any _ _ B w3 C0.out C1.out).mono ?_
  rintro e w5 ⟨rfl, rfl⟩
  refine hK.out _ _ ⟨rangeAt_turn RX.out T3.out id, rangeAt_turn RY.out T3.out id⟩ (fun _ => ?_)
  clear hK K
  try simp only [Act.put, List.setIfInBounds_toArray, List.set_cons_zero, List.set_cons_succ, List.getElem_toArray, List.getElem_cons_zero, List.getElem_cons_succ]
  refine wpAnyH_take (i := 14) (v := .int .i64 (orI (cmpI (x.r : Int) (y.r : Int)) (cmpI x.e.id y.e.id))) rfl (by kernel_rfl) (by kernel_rfl) (by kernel_rfl) (fun _ _ _ h => h) (Or.inl ⟨by rfl, ?yq11⟩) (by assumption) ?rq11
  case yq11 => (intro wq hSw; (try simp only [List.getElem_toArray, List.getElem_cons_zero, List.getElem_cons_succ]); go_simp; (try with_reducible rfl); all_goals (try omega))
  case rq11 =>
  try simp only [Act.put, List.setIfInBounds_toArray, List.set_cons_zero, List.set_cons_succ, List.getElem_toArray, List.getElem_cons_zero, List.getElem_cons_succ]
  refine wpAnyH_done (by kernel_rfl) ?_ _
  clear hHeld
  go_wp2_with fail
  go_ret
  exact ⟨rfl, HG.out⟩
theorem tns_agg : ∀ w, (isAgg 86).run Try.prog w = .ok true w := fun w => by kernel_rfl
theorem tns_size : ∀ w, (Go.sizeOf 86).run Try.prog w = .ok 11 w := fun w => by kernel_rfl
/-- THE TURNS ARE SORTED. -/
theorem sort_tn (w : World) (base : Nat) (a : Option Addr) (n c : Nat) (T : List Tn) (ho : w.ownsRow base 86 11 (.slice a n c) n (tnsV T)) (hn : T.length = n) (hn1 : n ≤ 1000) (hd : (T.map (·.e.id)).Nodup) : Calls Try.prog 43 #[.slice a n c, .func (.func 44) #[] #[]] w fun e w' =>
    e = .returned (.tuple #[]) ∧ ∃ L : List Tn, L.length = n ∧ (∀ t, t ∈ L ↔ t ∈ T) ∧ L.Pairwise TnLt ∧ w'.ownsRow base 86 11 (.slice a n c) n (tnsV L) ∧ Turn (fun q => (Value.slice a n c).ownBlock = some q) w w' := by
  cases T with
  | nil =>
    have hn0 : n = 0 := by simpa using hn.symm
    subst hn0
    have h := AnyF.slices_SortFunc_none Try.sortTn a c (.func (.func 44) #[] #[]) w
    change Calls Try.prog 43 _ _ _ at h
    refine h.mono ?_
    rintro e w' ⟨rfl, rfl⟩
    exact ⟨rfl, [], rfl, fun _ => Iff.rfl, List.Pairwise.nil, ho, Turn.refl _ _⟩
  | cons t0 T0 =>
    generalize hT : t0 :: T0 = T at *
    have hn0 : 0 < n := by rw [← hn, ← hT]; simp
    obtain ⟨g, rfl⟩ : ∃ g, a = some ⟨g, 0, none⟩ := by
      rcases ho.2 with ⟨h, h0⟩ | ⟨g, cap, cur, hv, _⟩
      · omega
      · cases hv; exact ⟨g, rfl⟩
    have hH := row_holds (fun x => x.vlen) (by decide) ho hn
    have hg := (own_blk_of ho (g := g) rfl).2.1
    have eg : ∀ args w, (callFunc 44 args).run Try.prog w = .ok (.enter 44 args) w := enters_of Try.func44 (by kernel_rfl) rfl
    have hcon := AnyQ.slices_SortFunc Try.sortTn 11 tns_agg tns_size Tn.vals (fun x => x.vlen) (fun x => x.vals_one) cfT swoT 44 #[] g 0 c T.toArray w eg (fun m os dk _ x y => clos_tn x y _) hH hg (by simp only [List.size_toArray]; omega)
    change Calls Try.prog 43 _ _ _ at hcon
    simp only [List.size_toArray, hn] at hcon
    refine hcon.mono ?_
    rintro e w' ⟨rfl, d', m, os, hp, hs, rfl⟩
    obtain ⟨L, rfl⟩ : ∃ L : List Tn, d' = L.toArray := ⟨d'.toList, by simp⟩
    have hL : L.length = n := by have := hp.1; simp only [List.size_toArray, hn] at this; exact this
    have hperm : L.Perm T := by
      have := hp.2.2
      simpa [hL, hn, List.take_of_length_le] using this
    obtain ⟨q1, q2⟩ := sort_own (l' := L) (fun x => x.vlen) (by decide) ho hL m os
    refine ⟨rfl, L, hL, fun t => hperm.mem_iff, ?_, q1, q2.mono (fun q _ e => by rw [e]; rfl)⟩
    have hdL : (L.map (·.e.id)).Nodup := (hperm.map _).nodup_iff.2 hd
    rw [List.pairwise_iff_getElem]
    intro i j hi hj hij
    have h1 := hs i j (Nat.zero_le _) hij (by omega)
    rw [show (L.toArray)[j]! = L[j] by simp [hj], show (L.toArray)[i]! = L[i] by simp [hi]] at h1
    unfold ltOf at h1
    rw [decide_eq_false_iff_not, cfT_neg] at h1
    have h2 : (L[i]).e.id ≠ (L[j]).e.id := fun e => by have := nodup_same hdL hi hj e; omega
    unfold TnLt at *
    omega

end Go.Proofs.Ytkciaafkhpjnaaa
namespace Go.Proofs.Ytkciaafkhpjnaaa
set_option maxRecDepth 100000
open Go.RowKit
set_option linter.unusedVariables false
set_option linter.unusedSimpArgs false

def AloneP (w : World) (c W : List El) (e : Ending) (w' : World) : Prop := ∃ v, e = .returned (.tuple #[v, .bool (ordOk c W)]) ∧ w'.ownsRow w.heap.size 38 10 v (ordE c W).length (elsV (ordE c W)) ∧ Turn (fun _ => False) w w'
set_option maxHeartbeats 8000000 in
theorem alone_any (w : World) (vc vw : Value) (c W : List El) (hc : RowV w vc c) (hw : RowV w vw W) (hrc : Rises c) (hrw : Rises W) (hl : c.length ≤ 100) (hlw : W.length ≤ 100) (hi : ∀ x ∈ c, I64 x.id ∧ I64 x.par) : Calls Try.prog 27 #[vc, vw] w (AloneP w c W) := by
  have HT := Lib.hid (take_any w vc vw c W hc hw hrc hrw hl hlw hi)
  have HRC := Lib.hid hrc
  have HL := Lib.hid hl
  clear hc hw hrc hrw hl hlw hi
  go_enter Try.func27, Try.ntmps27
  go_wp2_with fail
  refine HT.out.mono ?_
  rintro r w1 ⟨v, T, hst, rfl, ho, t1⟩
  obtain ⟨n, hn⟩ : ∃ n, T.length = n := ⟨_, rfl⟩
  have hn1 : n ≤ 100 := by have := hst.len; have := HL.out; omega
  rw [hn] at ho
  obtain ⟨ta, tc, rfl⟩ : ∃ a c, v = .slice a n c := own_slice_tn ho
  have HS := Lib.hid (sort_tn w1 w.heap.size ta n tc T ho hn (by omega) hst.nd)
  have T1 := Lib.hid t1
  have HST := Lib.hid hst
  have HO1 := Lib.hid ho
  clear t1 hst hn ho
  go_wp2_with fail
  refine HS.out.mono ?_
  rintro r w2 ⟨rfl, L, hL, hm, hp, o2, t2⟩
  have T2 := Lib.hid (turn_on_tn HO1.out (Nat.le_refl _) T1.out t2)
  have HOR := Lib.hid (take_ord HRC.out HST.out hm hp)
  have O2 := Lib.hid o2
  have HLN := Lib.hid hL
  clear hL hm hp o2 t2
  obtain ⟨R, hR⟩ : ∃ R, w2.heap.size = R := ⟨_, rfl⟩
  obtain ⟨w3, hw3⟩ : ∃ w3, w2.alloc (.cells (elsV (List.replicate n el0)).toArray 38) = w3 := ⟨_, rfl⟩
  have hbx := box_alloc w2 38 (elsV (List.replicate n el0))
  have hx : ∀ ev op x, op.op = .makeSlice 25 x x → ev x = .int .i64 (n : Int) → (execOp ev op).run Try.prog w2 = .ok (.value (.slice (some ⟨R, 0, none⟩) n n)) w3 := fun ev op x ho h => by rw [← hw3, ← hR]; exact exec_make_els ev op x ho n (by omega) h w2
  rw [hw3] at hbx
  have hh := hbx.heap
  rw [hR] at hh
  have HXM := Lib.hid hx
  have T3 := Lib.hid (T2.out.trans hbx.turn (fun _ _ => id))
  have O3 := Lib.hid (hbx.turn.owns O2.out (fun _ _ => id))
  have HH := Lib.hid hh
  have HNE := Lib.hid (show ∀ g, (Value.slice ta n tc).ownBlock = some g → g ≠ R from fun g hg e => by have := (own_blk_of O2.out hg).2.1; omega)
  have HRS := Lib.hid (show w.heap.size ≤ R by rw [← hR]; exact T2.out.size)
  clear hx hbx hh hw3 hR
  go_wp2_with (with_reducible (show wpList _ _ _ (Oper.mk (some 21) (.makeSlice 25 _ _) _ _ _ _ :: _) _ _); refine still ?_)
  refine list_exec rfl _ _ (HXM.out _ _ (.tmp 20) rfl rfl) ?_
  go_wp2_with fail
  go_loopw [24] (fun iv wr => ∃ k : Nat, k ≤ n ∧ iv = .int .i64 (k : Int) ∧ wr.heap[R]? = some (.cells (elsV (fillE Tn.e el0 L k n)).toArray 38 (0, 0)) ∧ wr.ownsRow w.heap.size 86 11 (.slice ta n tc) n (tnsV L) ∧ Turn (fun _ => False) w wr) (fun iv _ => n - (intOf iv).toNat)
  case atStart => exact ⟨0, Nat.zero_le _, rfl, by rw [fillE_none]; exact HH.out, O3.out, T3.out⟩
  case round =>
    obtain ⟨k, hkn, rfl, hh, ho, ht⟩ := hrel
    have HHK := Lib.hid hh
    have HOK := Lib.hid ho
    have HTK := Lib.hid ht
    clear hh ho ht
    by_cases hlt : k < n
    · have gi : (0 : Int) ≤ (k : Int) ∧ (k : Int) < (n : Int) := by omega
      have dk : decide ((k : Int) < (n : Int)) = true := decide_eq_true (by omega)
      obtain ⟨g, o, rfl, hcc, hs⟩ := (own_tnV (by rw [HLN.out]; exact HOK.out)).one HLN.out k hlt
      obtain ⟨x, hx⟩ : ∃ x, L.getD k tn0 = x := ⟨_, rfl⟩
      rw [hx] at hs
      have HXE := Lib.hid hx
      have HS := Lib.hid hs
      clear hx hs hcc
      have hbb := box_alloc wr 86 tn0.vals
      obtain ⟨X, hE⟩ : ∃ X, wr.heap.size = X := ⟨_, rfl⟩
      obtain ⟨wz, hwz⟩ : ∃ wz, wr.alloc (.cells tn0.vals.toArray 86) = wz := ⟨_, rfl⟩
      have hx0 : ∀ ev op, op.op = .alloc 86 → (execOp ev op).run Try.prog wr = .ok (.value (.pointer (some ⟨X, 0, none⟩))) wz := fun ev op ho => by rw [← hwz, ← hE]; exact exec_zero_tn ev op ho _
      rw [hwz] at hbb
      have hhh := hbb.heap
      rw [hE] at hhh
      have HX0 := Lib.hid hx0
      have HBB := Lib.hid hbb.turn
      have HHB := Lib.hid hhh
      have HEE := Lib.hid hE
      clear hbb hE hwz hx0 hhh
      go_wp2_with (with_reducible (show wpList _ _ _ (Oper.mk (some 28) (.load 86 (.tmp 27)) _ _ _ _ :: _) _ _); refine still ?_)
      refine wpList_load_mid rfl 86 (.tmp 27) rfl g (o + k * 11) rfl x.vals _ HS.out Try.underlying86 rfl tn_info ?_
      go_wp2_with (with_reducible (show wpList _ _ _ (Oper.mk (some 10) (.alloc 86) _ _ _ _ :: _) _ _); refine still ?_)
      refine list_exec rfl _ _ (HX0.out _ _ rfl) ?_
      go_wp2_with (with_reducible (show wpList _ _ _ (Oper.mk none (.store 86 (.tmp 10) (.tmp 28)) _ _ _ _ :: _) _ _); refine still ?_)
      refine list_put wz X 86 tn0.vals x.vals HHB.out rfl x.vals_one tn_info rfl (.tmp 10) (.tmp 28) rfl rfl rfl (fun wa h2 t2 => ?_)
      have HX := Lib.hid h2
      have Twa := Lib.hid (show Turn (fun _ => False) wr wa from HBB.out.trans t2 (fun q hq e => by have := HEE.out; omega))
      have LX := Lib.hid (show wr.heap.size = X from HEE.out)
      clear h2 t2 HX0 HBB HHB HEE
      have HR4 := Lib.hid ((Twa.out.block R (Array.getElem?_eq_some_iff.1 HHK.out).1 id).trans HHK.out)
      have HST2 := Lib.hid (fillE_set Tn.e el0 L k n tn0 hlt HLN.out)
      rw [HXE.out] at HST2
      go_wp2_with (with_reducible (show wpList _ _ _ (Oper.mk (some 32) (.load 38 (.tmp 31)) _ _ _ _ :: _) _ _); refine still ?_)
      refine wpList_load_mid rfl 38 (.tmp 31) rfl X 0 rfl x.e.vals _ (tnE (range_of HX.out)) Try.underlying38 rfl el_info ?_
      go_wp2_with (with_reducible (show wpList _ _ _ (Oper.mk none (.store 38 (.tmp 33) (.tmp 32)) _ _ _ _ :: _) _ _); refine still ?_)
      refine row_put wa R k (fillE Tn.e el0 L k n) x.e HR4.out (by rw [fillE_len _ _ _ _ _ (by omega) HLN.out]; exact hlt) rfl (.tmp 33) (.tmp 32) rfl rfl rfl (fun w5 h5 t5 => ?_)
      rw [HST2.out] at h5
      have H5 := Lib.hid h5
      have O5 := Lib.hid (t5.owns (Twa.out.owns HOK.out (fun _ _ => id)) (fun g' hg' e => HNE.out g' hg' e))
      have T5 := Lib.hid ((HTK.out.trans Twa.out (fun _ _ => id)).trans t5 (fun q hq e => by have := HRS.out; omega))
      clear h5 t5
      go_wp2_with fail
      go_roundw
      case rel => exact ⟨k + 1, by omega, by go_num, H5.out, O5.out, T5.out⟩
      case measure => simp [intOf]; omega
    · have hke : k = n := by omega
      subst hke
      have HF := Lib.hid (show wr.heap[R]? = some (.cells (elsV (ordE c W)).toArray 38 (0, 0)) by have := HHK.out; rw [fillE_full _ _ _ _ HLN.out, HOR.out] at this; exact this)
      have HLE := Lib.hid (show (ordE c W).length = k by rw [← HOR.out, List.length_map]; exact HLN.out)
      go_wp2_with fail
      go_ret2
      refine ⟨_, rfl, ?_, HTK.out⟩
      rw [HLE.out]
      exact own_all HF.out HRS.out HLE.out (by omega)

end Go.Proofs.Ytkciaafkhpjnaaa
