/- Own contracts: the laws' first look; a nil map. No statement is proved here. -/
import Derived.Test.YtmhdcpkncaghpaaFree
namespace Go.Proofs.Ytmhdcpkncaghpaa
open Go.RowKit
set_option linter.unusedVariables false
set_option linter.unusedSimpArgs false

theorem awL : Least (fun p => false || inR (1, 1 + 2) p) 5 2 (some 3) := by
  refine ⟨⟨by decide, fun j hj => ?_⟩, fun p hp hf => ?_⟩
  · show (false || inR (1, 3) (3 + j)) = false
    rw [inR_false (by show 3 + j < 1 ∨ 3 ≤ 3 + j; omega)]; rfl
  · have h0 := hf.2 0 (by decide)
    have h1 := hf.2 1 (by decide)
    have : p = 0 ∨ p = 1 ∨ p = 2 := by omega
    rcases this with rfl | rfl | rfl
    · exact absurd h1 (by decide)
    · exact absurd h0 (by decide)
    · exact absurd h0 (by decide)
theorem awC : cnt (fun p => !(false || inR (1, 1 + 2) p)) 5 = 3 := by decide

set_option maxHeartbeats 1600000 in
set_option maxRecDepth 100000 in
theorem awake_any (w : World) : Calls Try.prog 8 #[] w (None w (.bool true)) := by
  go_enter Try.func8, Try.ntmps8
  go_wp2_with fail
  refine (new_h w 5 (by decide)).mono ?_
  rintro e w1 ⟨D, F, rfl, h1, hF, T1⟩
  have H1 := Lib.hid h1
  clear h1
  go_wp2_with fail
  refine (take_yes w1 F D 5 _ H1.out (by decide) 1 2 (by decide) (fun _ _ _ => rfl)).mono ?_
  rintro e w2 ⟨rfl, F2, g2, h2⟩
  have H2 := Lib.hid h2
  clear h2
  go_wp2_with fail
  refine (find_h w2 F2 D 5 _ H2.out (by decide) 2 (by decide) (by decide) _ awL).mono ?_
  rintro e w3 ⟨rfl, T3⟩
  go_wp2_with fail
  have hl := left_h w3 F2 D 5 _ (H2.out.none T3) (by decide)
  rw [awC] at hl
  refine hl.mono ?_
  rintro e w4 ⟨rfl, T4⟩
  go_wp2_with fail
  go_ret
  refine ⟨rfl, ?_⟩
  have a : Turn (fun _ => False) w w2 := T1.trans g2.1 (fun k hk hFk => by have := hF k hFk; omega)
  exact (a.trans T3 (fun _ _ => id)).trans T4 (fun _ _ => id)

set_option maxHeartbeats 800000 in
set_option maxRecDepth 100000 in
theorem nil_has (w : World) (a n : Int) (ha : -9223372036854775808 ≤ a ∧ a < 9223372036854775808) (hn : -9223372036854775808 ≤ n ∧ n < 9223372036854775808) : Calls Try.prog 16 #[.pointer none, .int .i64 a, .int .i64 n] w (None w (.bool false)) := by
  go_enter Try.func16, Try.ntmps16
  go_wp2_with fail
  go_ret
  exact ⟨rfl, Turn.refl _ _⟩
set_option maxHeartbeats 800000 in
set_option maxRecDepth 100000 in
theorem nil_take (w : World) (a n : Int) (ha : -9223372036854775808 ≤ a ∧ a < 9223372036854775808) (hn : -9223372036854775808 ≤ n ∧ n < 9223372036854775808) : Calls Try.prog 11 #[.pointer none, .int .i64 a, .int .i64 n] w (None w (.bool false)) := by
  go_enter Try.func11, Try.ntmps11
  go_wp2_with fail
  refine (nil_has w a n ha hn).mono ?_
  rintro e w1 ⟨rfl, T⟩
  go_wp2_with fail
  go_ret
  exact ⟨rfl, T⟩
set_option maxHeartbeats 800000 in
set_option maxRecDepth 100000 in
theorem nil_free (w : World) (a n : Int) (ha : -9223372036854775808 ≤ a ∧ a < 9223372036854775808) (hn : -9223372036854775808 ≤ n ∧ n < 9223372036854775808) : Calls Try.prog 12 #[.pointer none, .int .i64 a, .int .i64 n] w (None w (.bool false)) := by
  go_enter Try.func12, Try.ntmps12
  go_wp2_with fail
  refine (nil_has w a n ha hn).mono ?_
  rintro e w1 ⟨rfl, T⟩
  go_wp2_with fail
  go_ret
  exact ⟨rfl, T⟩
set_option maxHeartbeats 800000 in
set_option maxRecDepth 100000 in
theorem nil_find (w : World) (n : Int) : Calls Try.prog 10 #[.pointer none, .int .i64 n] w (None w (.int .i64 (-1))) := by
  go_enter Try.func10, Try.ntmps10
  go_wp2_with fail
  go_ret
  exact ⟨rfl, Turn.refl _ _⟩
set_option maxHeartbeats 800000 in
set_option maxRecDepth 100000 in
theorem nil_left (w : World) : Calls Try.prog 14 #[.pointer none] w (None w (.int .i64 0)) := by
  go_enter Try.func14, Try.ntmps14
  go_wp2_with fail
  go_ret
  exact ⟨rfl, Turn.refl _ _⟩
set_option maxHeartbeats 800000 in
set_option maxRecDepth 100000 in
theorem nil_len (w : World) : Calls Try.prog 15 #[.pointer none] w (None w (.int .i64 0)) := by
  go_enter Try.func15, Try.ntmps15
  go_wp2_with fail
  go_ret
  exact ⟨rfl, Turn.refl _ _⟩
set_option maxHeartbeats 800000 in
set_option maxRecDepth 100000 in
theorem nil_used (w : World) (n : Int) : Calls Try.prog 13 #[.pointer none, .int .i64 n] w (None w (.bool false)) := by
  go_enter Try.func13, Try.ntmps13
  go_wp2_with fail
  go_ret
  exact ⟨rfl, Turn.refl _ _⟩

theorem least_0 (N : Nat) (hN : 0 < N) : Least (fun _ => false) 0 N none := fun p hf => by have := hf.1; omega

set_option maxHeartbeats 1600000 in
set_option maxRecDepth 100000 in
/-- The law of nil maps. -/
theorem nil_law (w : World) (n a : Int) (ha : -9223372036854775808 ≤ a ∧ a < 9223372036854775808) (hn : -9223372036854775808 ≤ n ∧ n < 9223372036854775808) :
    Calls Try.prog 5 #[.int .i64 n, .int .i64 a] w (None w (.bool true)) := by
  obtain ⟨m, hm⟩ : ∃ m, min n 0 = m := ⟨_, rfl⟩
  have hm0 : m ≤ 0 := by omega
  have hm1 : m.toNat = 0 := by omega
  have hm2 : -9223372036854775808 ≤ m ∧ m < 9223372036854775808 := by omega
  have hnew := new_h w m hm2
  rw [hm1] at hnew
  have HN := Lib.hid hnew
  clear hnew hm1
  go_enter Try.func5, Try.ntmps5
  go_wp2_with fail
  refine HN.out.mono ?_
  rintro e w1 ⟨D, F, rfl, h1, hF, T1⟩
  have H1 := Lib.hid h1
  clear h1
  go_wp2_with fail
  refine (awake_any w1).mono ?_
  rintro e w2 ⟨rfl, T2⟩
  go_wp2_with fail
  refine (nil_take w2 a n ha hn).mono ?_
  rintro e w3 ⟨rfl, T3⟩
  go_wp2_with fail
  refine (nil_free w3 a n ha hn).mono ?_
  rintro e w4 ⟨rfl, T4⟩
  go_wp2_with fail
  refine (nil_find w4 n).mono ?_
  rintro e w5 ⟨rfl, T5⟩
  go_wp2_with fail
  refine (nil_left w5).mono ?_
  rintro e w6 ⟨rfl, T6⟩
  go_wp2_with fail
  refine (nil_len w6).mono ?_
  rintro e w7 ⟨rfl, T7⟩
  go_wp2_with fail
  refine (nil_used w7 a).mono ?_
  rintro e w8 ⟨rfl, T8⟩
  have U8 : Turn (fun _ => False) w1 w8 := ((((((T2.trans T3 (fun _ _ => id)).trans T4 (fun _ _ => id)).trans T5 (fun _ _ => id)).trans T6 (fun _ _ => id)).trans T7 (fun _ _ => id)).trans T8 (fun _ _ => id))
  have h8 := H1.out.none U8
  have H8 := Lib.hid h8
  clear h8
  go_wp2_with fail
  refine (len_h w8 F D 0 _ H8.out).mono ?_
  rintro e w9 ⟨rfl, T9⟩
  go_wp2_with fail
  have hf := find_h w9 F D 0 _ (H8.out.none T9) (by decide) 1 (by decide) (by decide) none (least_0 1 (by decide))
  refine hf.mono ?_
  rintro e w10 ⟨rfl, T10⟩
  clear hf
  go_wp2_with fail
  have hu := used_h w10 F D 0 _ ((H8.out.none T9).none T10) (by decide) a ha
  rw [Bool.and_false] at hu
  refine hu.mono ?_
  rintro e w11 ⟨rfl, T11⟩
  clear hu
  go_wp2_with fail
  go_ret
  exact ⟨rfl, ((((T1.trans U8 (fun _ _ => id)).trans T9 (fun _ _ => id)).trans T10 (fun _ _ => id)).trans T11 (fun _ _ => id))⟩
end Go.Proofs.Ytmhdcpkncaghpaa
