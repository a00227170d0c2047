/- Own contracts: the rules, one by one. No statement is proved here. -/
import Derived.Test.YtifhnidcodhoeaaUd
import Derived.Test.YtifhnidcodhoeaaUf
import Derived.Test.YtifhnidcodhoeaaUg
namespace Go.Proofs.Ytifhnidcodhoeaa
set_option maxRecDepth 100000
open Go.RowKit
set_option linter.unusedVariables false
set_option linter.unusedSimpArgs false

set_option maxHeartbeats 4000000 in
theorem rbreaks_any (w : World) (v : Value) (l : List El) (x : El) (R : Int) (hR : 2 ≤ R ∧ R ≤ 8) (hv : RowV w v l) (hri : Rises l) (hps : ∀ x ∈ l, 1 ≤ x.id) (hb : l.length ≤ 1000) : Calls Try.prog 16 #[v, .agg x.vals.toArray, .int .i64 R] w fun r w' => r = .returned (.bool (breaksB l x R)) ∧ Turn (fun _ => False) w w' := by
  have HRI := Lib.hid hri
  have HPS := Lib.hid hps
  clear hri hps
  obtain ⟨la, lc, rfl⟩ := hv.form
  obtain ⟨n, hn⟩ : ∃ n, l.length = n := ⟨_, rfl⟩
  rw [hn] at hv hb
  simp only [hn]
  have HN := Lib.hid hn
  clear hn
  have hbx := box_alloc w 35 x.vals
  obtain ⟨X, hX⟩ : ∃ X, w.heap.size = X := ⟨_, rfl⟩
  obtain ⟨w1, hw1⟩ : ∃ w1, w.alloc (.cells x.vals.toArray 35) = w1 := ⟨_, rfl⟩
  rw [hw1] at hbx
  have hr := hbx.range
  rw [hX] at hr
  obtain ⟨c0, c1, c2, c3, c4, c5, c6, c7, c8, c9⟩ := cellsE hr
  simp only [Nat.zero_add] at c0 c1 c2 c3 c4 c5 c6 c7 c8 c9
  have T1 := Lib.hid hbx.turn
  have HR := Lib.hid hr
  have HV1 := Lib.hid (hv.turn hbx.turn (fun _ _ => id))
  clear hbx hr hv
  rcases (by omega : R = 2 ∨ R = 3 ∨ R = 4 ∨ R = 5 ∨ R = 6 ∨ R = 7 ∨ R = 8) with rfl | rfl | rfl | rfl | rfl | rfl | rfl
  · have hc := unkind_any x w1
    obtain ⟨B, hB⟩ : ∃ B, b2 x = B := ⟨_, rfl⟩
    rw [hB] at hc
    have HBB := Lib.hid (show breaksB l x 2 = B from hB)
    have HCC := Lib.hid hc
    clear hB hc
    go_enter Try.func16, Try.ntmps16
    go_wp2_with (with_reducible (show wpList _ _ _ (Oper.mk (some 10) (.load 35 (.tmp 4)) _ _ _ _ :: _) _ _); refine still ?_)
    refine wpList_load_mid rfl 35 (.tmp 4) rfl X 0 rfl x.vals _ HR.out Try.underlying35 rfl el_info ?_
    go_wp2_with fail
    refine HCC.out.mono ?_
    rintro r w9 ⟨rfl, t9⟩
    have T9 := Lib.hid (T1.out.trans t9 (fun _ _ => id))
    clear t9
    go_wp2_with fail
    go_ret
    exact ⟨by rw [HBB.out]; rfl, T9.out⟩
  · have hc := misnamed_any w1 _ l x HV1.out (by rw [HN.out]; exact hb)
    obtain ⟨B, hB⟩ : ∃ B, b3 l x = B := ⟨_, rfl⟩
    rw [hB] at hc
    have HBB := Lib.hid (show breaksB l x 3 = B from hB)
    have HCC := Lib.hid hc
    clear hB hc
    go_enter Try.func16, Try.ntmps16
    go_wp2_with (with_reducible (show wpList _ _ _ (Oper.mk (some 15) (.load 35 (.tmp 4)) _ _ _ _ :: _) _ _); refine still ?_)
    refine wpList_load_mid rfl 35 (.tmp 4) rfl X 0 rfl x.vals _ HR.out Try.underlying35 rfl el_info ?_
    go_wp2_with fail
    refine HCC.out.mono ?_
    rintro r w9 ⟨rfl, t9⟩
    have T9 := Lib.hid (T1.out.trans t9 (fun _ _ => id))
    clear t9
    go_wp2_with fail
    go_ret
    exact ⟨by rw [HBB.out]; rfl, T9.out⟩
  · have hc := astray_any w1 _ l x HV1.out HRI.out HPS.out (by rw [HN.out]; exact hb)
    obtain ⟨B, hB⟩ : ∃ B, b4 l x = B := ⟨_, rfl⟩
    rw [hB] at hc
    have HBB := Lib.hid (show breaksB l x 4 = B from hB)
    have HCC := Lib.hid hc
    clear hB hc
    go_enter Try.func16, Try.ntmps16
    go_wp2_with (with_reducible (show wpList _ _ _ (Oper.mk (some 20) (.load 35 (.tmp 4)) _ _ _ _ :: _) _ _); refine still ?_)
    refine wpList_load_mid rfl 35 (.tmp 4) rfl X 0 rfl x.vals _ HR.out Try.underlying35 rfl el_info ?_
    go_wp2_with fail
    refine HCC.out.mono ?_
    rintro r w9 ⟨rfl, t9⟩
    have T9 := Lib.hid (T1.out.trans t9 (fun _ _ => id))
    clear t9
    go_wp2_with fail
    go_ret
    exact ⟨by rw [HBB.out]; rfl, T9.out⟩
  · have hc := ringed_any w1 _ l x HV1.out HRI.out (by rw [HN.out]; exact hb)
    obtain ⟨B, hB⟩ : ∃ B, b5 l x = B := ⟨_, rfl⟩
    rw [hB] at hc
    have HBB := Lib.hid (show breaksB l x 5 = B from hB)
    have HCC := Lib.hid hc
    clear hB hc
    go_enter Try.func16, Try.ntmps16
    go_wp2_with (with_reducible (show wpList _ _ _ (Oper.mk (some 25) (.load 35 (.tmp 4)) _ _ _ _ :: _) _ _); refine still ?_)
    refine wpList_load_mid rfl 35 (.tmp 4) rfl X 0 rfl x.vals _ HR.out Try.underlying35 rfl el_info ?_
    go_wp2_with fail
    refine HCC.out.mono ?_
    rintro r w9 ⟨rfl, t9⟩
    have T9 := Lib.hid (T1.out.trans t9 (fun _ _ => id))
    clear t9
    go_wp2_with fail
    go_ret
    exact ⟨by rw [HBB.out]; rfl, T9.out⟩
  · have hc := loose_any w1 _ l x HV1.out HRI.out (by rw [HN.out]; exact hb)
    obtain ⟨B, hB⟩ : ∃ B, b6 l x = B := ⟨_, rfl⟩
    rw [hB] at hc
    have HBB := Lib.hid (show breaksB l x 6 = B from hB)
    have HCC := Lib.hid hc
    clear hB hc
    go_enter Try.func16, Try.ntmps16
    go_wp2_with (with_reducible (show wpList _ _ _ (Oper.mk (some 30) (.load 35 (.tmp 4)) _ _ _ _ :: _) _ _); refine still ?_)
    refine wpList_load_mid rfl 35 (.tmp 4) rfl X 0 rfl x.vals _ HR.out Try.underlying35 rfl el_info ?_
    go_wp2_with fail
    refine HCC.out.mono ?_
    rintro r w9 ⟨rfl, t9⟩
    have T9 := Lib.hid (T1.out.trans t9 (fun _ _ => id))
    clear t9
    go_wp2_with fail
    go_ret
    exact ⟨by rw [HBB.out]; rfl, T9.out⟩
  · have hc := rivalled_any w1 _ l x HV1.out (by rw [HN.out]; exact hb)
    obtain ⟨B, hB⟩ : ∃ B, b7 l x = B := ⟨_, rfl⟩
    rw [hB] at hc
    have HBB := Lib.hid (show breaksB l x 7 = B from hB)
    have HCC := Lib.hid hc
    clear hB hc
    go_enter Try.func16, Try.ntmps16
    go_wp2_with (with_reducible (show wpList _ _ _ (Oper.mk (some 35) (.load 35 (.tmp 4)) _ _ _ _ :: _) _ _); refine still ?_)
    refine wpList_load_mid rfl 35 (.tmp 4) rfl X 0 rfl x.vals _ HR.out Try.underlying35 rfl el_info ?_
    go_wp2_with fail
    refine HCC.out.mono ?_
    rintro r w9 ⟨rfl, t9⟩
    have T9 := Lib.hid (T1.out.trans t9 (fun _ _ => id))
    clear t9
    go_wp2_with fail
    go_ret
    exact ⟨by rw [HBB.out]; rfl, T9.out⟩
  · have hc := mixed_any w1 _ l x HV1.out HRI.out (by rw [HN.out]; exact hb)
    obtain ⟨B, hB⟩ : ∃ B, b8 l x = B := ⟨_, rfl⟩
    rw [hB] at hc
    have HBB := Lib.hid (show breaksB l x 8 = B from hB)
    have HCC := Lib.hid hc
    clear hB hc
    go_enter Try.func16, Try.ntmps16
    go_wp2_with (with_reducible (show wpList _ _ _ (Oper.mk (some 40) (.load 35 (.tmp 4)) _ _ _ _ :: _) _ _); refine still ?_)
    refine wpList_load_mid rfl 35 (.tmp 4) rfl X 0 rfl x.vals _ HR.out Try.underlying35 rfl el_info ?_
    go_wp2_with fail
    refine HCC.out.mono ?_
    rintro r w9 ⟨rfl, t9⟩
    have T9 := Lib.hid (T1.out.trans t9 (fun _ _ => id))
    clear t9
    go_wp2_with fail
    go_ret
    exact ⟨by rw [HBB.out]; rfl, T9.out⟩

end Go.Proofs.Ytifhnidcodhoeaa
