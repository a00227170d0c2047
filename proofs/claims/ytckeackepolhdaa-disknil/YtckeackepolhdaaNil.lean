/- Own: the walk of DiskNil. -/
import Derived.Test.YtckeackepolhdaaAwake
namespace Go.Proofs.Ytckeackepolhdaa
open Go.RowKit
set_option linter.unusedVariables false
set_option linter.unusedSimpArgs false

set_option maxHeartbeats 4000000 in
set_option maxRecDepth 100000 in
theorem diskNil_walk (n i : Int) (a : Option Addr) (l c : Nat) (w : World) (hn : -9223372036854775808 ≤ n ∧ n < 9223372036854775808) :
    Calls Try.prog 5 #[.int .i64 n, .int .i64 i, .slice a l c] w (AwakePost w) := by
  by_cases h100 : l ≤ 100
  · have hd : decide ((100 : Int) < (l : Int)) = false := by simp; omega
    obtain ⟨m, hm⟩ : ∃ m : Nat, min (max n 0) 4096 = (m : Int) := ⟨(min (max n 0) 4096).toNat, by omega⟩
    go_enter Try.func5, Try.ntmps5
    go_wp2_with fail
    refine (awake_any w).mono ?_
    rintro e w1 ⟨rfl, t1⟩
    go_wp2_with fail
    refine (nil_arm w1 n).mono ?_
    rintro e w2 ⟨rfl, rfl⟩
    go_wp2_with fail
    refine (nil_crash w2 a l c).mono ?_
    rintro e w3 ⟨rfl, t3⟩
    have T3 := t1.trans t3 (fun _ _ => id)
    go_wp2_with fail
    refine (nil_read w3 i).mono ?_
    rintro e w4 ⟨rfl, rfl⟩
    go_wp2_with fail
    refine (nil_sectors w4).mono ?_
    rintro e w5 ⟨rfl, rfl⟩
    go_wp2_with fail
    refine (nil_on w5).mono ?_
    rintro e w6 ⟨rfl, rfl⟩
    go_wp2_with fail
    refine (nil_acts w6).mono ?_
    rintro e w7 ⟨rfl, rfl⟩
    go_wp2_with fail
    refine (nil_wet w7).mono ?_
    rintro e w8 ⟨rfl, rfl⟩
    go_wp2_with fail
    refine (nil_write w8 i _).mono ?_
    rintro e w9 ⟨rfl, rfl⟩
    go_wp2_with fail
    refine (nil_flush w9).mono ?_
    rintro e w10 ⟨rfl, rfl⟩
    go_wp2_with fail
    refine (nil_twin w10).mono ?_
    rintro e w11 ⟨rfl, rfl⟩
    go_wp2_with fail
    refine (new_any m w11 n hm).mono ?_
    rintro e w12 ⟨F, D, S, sc, rfl, hd12, hF, t12⟩
    have T12 := T3.trans t12 (fun _ _ => id)
    have HD := Lib.hid hd12
    clear hd12
    go_wp2_with fail
    refine (sectors_any D m sc _ _ w12 HD.out.head (by show Value.slice _ (List.replicate m noughts).length _ = _; rw [List.length_replicate])).mono ?_
    rintro e w13 ⟨rfl, rfl⟩
    by_cases h1 : n < 0
    · obtain rfl : m = 0 := by omega
      go_wp2_with fail
      all_goals (first | (go_ret; exact ⟨by simp, T12⟩) | (exfalso; omega))
    · by_cases h2 : n ≤ 4096
      · obtain rfl : n = (m : Int) := by omega
        go_wp2_with fail
        all_goals (first | (go_ret; exact ⟨by simp, T12⟩) | (exfalso; omega))
      · obtain rfl : m = 4096 := by omega
        go_wp2_with fail
        all_goals (first | (go_ret; exact ⟨by simp, T12⟩) | (exfalso; omega))
  · have hd : decide ((100 : Int) < (l : Int)) = true := by simp; omega
    go_enter Try.func5, Try.ntmps5
    go_wp2_with fail
    refine (awake_any w).mono ?_
    rintro e w1 ⟨rfl, t1⟩
    go_wp2_with fail
    refine (awake_any w1).mono ?_
    rintro e w2 ⟨rfl, t2⟩
    go_wp2_with fail
    go_ret
    exact ⟨rfl, t1.trans t2 (fun _ _ => id)⟩
end Go.Proofs.Ytckeackepolhdaa
