/- Own contracts: rules 3 and 7. No statement is proved here. -/
import Derived.Test.YtifhnidcodhoeaaUc
namespace Go.Proofs.Ytifhnidcodhoeaa
set_option maxRecDepth 100000
open Go.RowKit
set_option linter.unusedVariables false
set_option linter.unusedSimpArgs false

theorem b3_eq (l : List El) (x : El) : b3 l x = (namedE x && (x.name.toList.isEmpty || l.any (q3 x))) := by
  unfold b3
  cases h : namedE x
  · have : p3 x = fun _ => false := by funext y; simp [p3, h]
    rw [this]; simp
  · have : p3 x = q3 x := by
      funext y
      simp only [p3, q3, h, Bool.true_and]
      cases namedE y <;> cases y.id != x.id <;> rfl
    rw [this, Bool.true_and, Bool.true_and, Bool.or_comm]
theorem b7_eq (l : List El) (x : El) : b7 l x = (x.kind == 5 && l.any (q7 x)) := by
  unfold b7
  cases h : x.kind == 5
  · have : p7 x = fun _ => false := by funext y; simp [p7, h]
    rw [this]; simp
  · have : p7 x = q7 x := by
      funext y
      simp only [p7, q7, h, Bool.true_and]
      cases y.kind == 5 <;> cases y.id != x.id <;> rfl
    rw [this, Bool.true_and]
set_option maxHeartbeats 4000000 in
theorem misnamed_any (w : World) (v : Value) (l : List El) (x : El) (hv : RowV w v l) (hb : l.length ≤ 1000) : Calls Try.prog 26 #[v, .agg x.vals.toArray] w fun r w' => r = .returned (.bool (b3 l x)) ∧ Turn (fun _ => False) w w' := by
  obtain ⟨la, lc, rfl⟩ := hv.form
  obtain ⟨n, hn⟩ : ∃ n, l.length = n := ⟨_, rfl⟩
  rw [hn] at hv hb
  simp only [hn]
  have HN := Lib.hid hn
  clear hn
  have hbx := box_alloc w 35 x.vals
  obtain ⟨X, hX⟩ : ∃ X, w.heap.size = X := ⟨_, rfl⟩
  obtain ⟨w1, hw1⟩ : ∃ w1, w.alloc (.cells x.vals.toArray 35) = w1 := ⟨_, rfl⟩
  rw [hw1] at hbx
  have hr := hbx.range
  rw [hX] at hr
  obtain ⟨c0, c1, c2, c3, c4, c5, c6, c7, c8, c9⟩ := cellsE hr
  simp only [Nat.zero_add] at c0 c1 c2 c3 c4 c5 c6 c7 c8 c9
  have T1 := Lib.hid hbx.turn
  have HR := Lib.hid hr
  have HV1 := Lib.hid (hv.turn hbx.turn (fun _ _ => id))
  clear hbx hr hv
  have HQ := Lib.hid (b3_eq l x)
  go_enter Try.func26, Try.ntmps26
  go_wp2_with (with_reducible (show wpList _ _ _ (Oper.mk (some 5) (.load 35 (.tmp 3)) _ _ _ _ :: _) _ _); refine still ?_)
  refine wpList_load_mid rfl 35 (.tmp 3) rfl X 0 rfl x.vals _ HR.out Try.underlying35 rfl el_info ?_
  go_wp2_with fail
  refine (rnamed_any x w1).mono ?_
  rintro r w9 ⟨rfl, t9⟩
  have T9 := Lib.hid (T1.out.trans t9 (fun _ _ => id))
  have HR9 := Lib.hid (rangeAt_turn HR.out t9 id)
  have HV9 := Lib.hid (HV1.out.turn t9 (fun _ _ => id))
  obtain ⟨e0, e1, e2, e3, e4, e5, e6, e7, e8, e9⟩ := cellsE HR9.out
  simp only [Nat.zero_add] at e0 e1 e2 e3 e4 e5 e6 e7 e8 e9
  clear t9
  clear c0 c1 c2 c3 c4 c5 c6 c7 c8 c9
  obtain ⟨N, hN⟩ : ∃ N, namedE x = N := ⟨_, rfl⟩
  rw [hN]
  rw [hN] at HQ
  clear hN
  cases N
  · go_wp2_with fail
    go_ret
    exact ⟨by rw [HQ.out]; rfl, T9.out⟩
  have hct := has_near x X w9 _ l HV9.out (by rw [HN.out]; exact hb) HR9.out
  obtain ⟨A, hA⟩ : ∃ A, l.any (q3 x) = A := ⟨_, rfl⟩
  rw [hA] at hct HQ
  have HCT := Lib.hid hct
  clear hA hct
  obtain ⟨E, hE⟩ : ∃ E, x.name.toList.isEmpty = E := ⟨_, rfl⟩
  rw [hE] at HQ
  cases E
  · go_wp2_with (go_at_call 23; refine HCT.out.mono ?_; rintro r w8 ⟨rfl, t8⟩; (have T8 := Lib.hid (T9.out.trans t8 (fun _ _ => id))); clear t8)
    go_ret
    exact ⟨by rw [HQ.out]; rfl, T8.out⟩
  · go_wp2_with fail
    go_ret
    exact ⟨by rw [HQ.out]; rfl, T9.out⟩
set_option maxHeartbeats 4000000 in
theorem rivalled_any (w : World) (v : Value) (l : List El) (x : El) (hv : RowV w v l) (hb : l.length ≤ 1000) : Calls Try.prog 30 #[v, .agg x.vals.toArray] w fun r w' => r = .returned (.bool (b7 l x)) ∧ Turn (fun _ => False) w w' := by
  obtain ⟨la, lc, rfl⟩ := hv.form
  obtain ⟨n, hn⟩ : ∃ n, l.length = n := ⟨_, rfl⟩
  rw [hn] at hv hb
  simp only [hn]
  have HN := Lib.hid hn
  clear hn
  have hbx := box_alloc w 35 x.vals
  obtain ⟨X, hX⟩ : ∃ X, w.heap.size = X := ⟨_, rfl⟩
  obtain ⟨w1, hw1⟩ : ∃ w1, w.alloc (.cells x.vals.toArray 35) = w1 := ⟨_, rfl⟩
  rw [hw1] at hbx
  have hr := hbx.range
  rw [hX] at hr
  obtain ⟨c0, c1, c2, c3, c4, c5, c6, c7, c8, c9⟩ := cellsE hr
  simp only [Nat.zero_add] at c0 c1 c2 c3 c4 c5 c6 c7 c8 c9
  have T1 := Lib.hid hbx.turn
  have HR := Lib.hid hr
  have HV1 := Lib.hid (hv.turn hbx.turn (fun _ _ => id))
  clear hbx hr hv
  have HQ := Lib.hid (b7_eq l x)
  obtain ⟨N, hN⟩ : ∃ N, (x.kind == 5) = N := ⟨_, rfl⟩
  rw [hN] at HQ
  have hct := has_rival x X w1 _ l HV1.out (by rw [HN.out]; exact hb) HR.out
  obtain ⟨A, hA⟩ : ∃ A, l.any (q7 x) = A := ⟨_, rfl⟩
  rw [hA] at hct HQ
  have HCT := Lib.hid hct
  clear hA hct
  go_enter Try.func30, Try.ntmps30
  cases N
  · go_wp2_with fail
    go_ret
    exact ⟨by rw [HQ.out]; rfl, T1.out⟩
  · go_wp2_with (go_at_call 23; refine HCT.out.mono ?_; rintro r w8 ⟨rfl, t8⟩; (have T8 := Lib.hid (T1.out.trans t8 (fun _ _ => id))); clear t8)
    go_ret
    exact ⟨by rw [HQ.out]; rfl, T8.out⟩

end Go.Proofs.Ytifhnidcodhoeaa
