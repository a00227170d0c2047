/- Own contracts: the laws' first look. No statement is proved here. -/
import Derived.Test.YtakmkkgpkbpbkaaHarn
namespace Go.Proofs.Ytakmkkgpkbpbkaa
open Go.RowKit
set_option linter.unusedVariables false
set_option linter.unusedSimpArgs false

def AwakePost (w : World) (e : Ending) (w' : World) : Prop := e = .returned (.bool true) ∧ Turn (fun _ => False) w w'
theorem conv_three (w : World) (a b c : Int) : (convert 31 31 (.slice (some ⟨w.heap.size, 0, none⟩) 3 3)).run Try.prog (w.alloc (.cells #[.int .u8 a, .int .u8 b, .int .u8 c] 5)) = .ok (.slice (some ⟨w.heap.size, 0, none⟩) 3 3) (w.alloc (.cells #[.int .u8 a, .int .u8 b, .int .u8 c] 5 (3, 4))) :=
  Lib.run_convert_bytes_const w 31 5 _ 3 3 Try.underlying31 Try.underlying5
theorem three_ok (a b c : Int) (h : (0 ≤ a ∧ a < 256) ∧ (0 ≤ b ∧ b < 256) ∧ (0 ≤ c ∧ c < 256)) : BytesOk [a, b, c] := fun y hy => by
  simp at hy
  rcases hy with rfl | rfl | rfl
  · exact h.1
  · exact h.2.1
  · exact h.2.2
set_option maxHeartbeats 4000000 in
set_option maxRecDepth 100000 in
theorem awake_any (w : World) : Calls Try.prog 8 #[] w (AwakePost w) := by
  go_enter Try.func8, Try.ntmps8
  go_wp2_with fail
  refine (new_h w 60 1000 (by omega) (by omega)).mono ?_
  rintro e w1 ⟨D, F1, rfl, hd1, hF1, t1⟩
  have HD1 := Lib.hid hd1
  clear hd1
  go_wp2_with fail
  refine (open_h w1 F1 D (newM 60) 0 _ 900 HD1.out rfl (by omega)).mono ?_
  rintro e w2 ⟨J, F2, d2, L2, rfl, hj2, ha2, hJ2, hs2, hL2⟩
  have HJ2 := Lib.hid hj2
  have HA2 := Lib.hid ha2
  clear hj2 ha2
  go_wp2_with fail
  refine (sectors_h w2 F2 J D d2 L2 _ 900 HJ2.out).mono ?_
  rintro e w3 ⟨rfl, rfl⟩
  have hl11 : ((List.replicate (60 - 49) noughts).length : Int) = 11 := by simp
  rw [hl11]
  clear hl11
  have hcv1 := conv_three w3 111 110 101
  have hcv2 := conv_three (w3.alloc (.cells #[.int .u8 111, .int .u8 110, .int .u8 101] 5 (3, 4))) 116 119 111
  have hsz1 : (w3.alloc (.cells #[.int .u8 111, .int .u8 110, .int .u8 101] 5 (3, 4))).heap.size = w3.heap.size + 1 := by simp
  rw [hsz1] at hcv2
  have HR1 := Lib.hid (reads_marked w3 [111, 110, 101] 3 rfl (3, 4))
  have HR2 := Lib.hid (reads_marked (w3.alloc (.cells #[.int .u8 111, .int .u8 110, .int .u8 101] 5 (3, 4))) [116, 119, 111] 3 rfl (3, 4))
  go_wp2_with fail
  have ta : Turn (fun _ => False) w3 (w3.alloc (.cells #[.int .u8 111, .int .u8 110, .int .u8 101] 5 (3, 4))) := (Turn.refl _ w3).alloc _
  have tb : Turn (fun _ => False) (w3.alloc (.cells #[.int .u8 111, .int .u8 110, .int .u8 101] 5 (3, 4))) ((w3.alloc (.cells #[.int .u8 111, .int .u8 110, .int .u8 101] 5 (3, 4))).alloc (.cells #[.int .u8 116, .int .u8 119, .int .u8 111] 5 (3, 4))) := (Turn.refl _ _).alloc _
  have hsz2 : ((w3.alloc (.cells #[.int .u8 111, .int .u8 110, .int .u8 101] 5 (3, 4))).alloc (.cells #[.int .u8 116, .int .u8 119, .int .u8 111] 5 (3, 4))).heap.size = w3.heap.size + 1 + 1 := by simp
  have hr1 : Src ((w3.alloc (.cells #[.int .u8 111, .int .u8 110, .int .u8 101] 5 (3, 4))).alloc (.cells #[.int .u8 116, .int .u8 119, .int .u8 111] 5 (3, 4))) (.slice (some ⟨w3.heap.size, 0, none⟩) 3 3) [111, 110, 101] := .inl (HR1.out.turn tb (fun _ _ => id))
  have hr2 : Src ((w3.alloc (.cells #[.int .u8 111, .int .u8 110, .int .u8 101] 5 (3, 4))).alloc (.cells #[.int .u8 116, .int .u8 119, .int .u8 111] 5 (3, 4))) (.slice (some ⟨w3.heap.size + 1, 0, none⟩) 3 3) [116, 119, 111] := by
    have := HR2.out
    rw [hsz1] at this
    exact .inl this
  have tab := ta.trans tb (fun _ _ => id)
  obtain ⟨wb, hwb⟩ : ∃ wb, (w3.alloc (.cells #[.int .u8 111, .int .u8 110, .int .u8 101] 5 (3, 4))).alloc (.cells #[.int .u8 116, .int .u8 119, .int .u8 111] 5 (3, 4)) = wb := ⟨_, rfl⟩
  rw [hwb] at tab hsz2 hr1 hr2 ⊢
  clear hwb ta tb hcv1 hcv2 hsz1 HR1 HR2
  have hpg := pages_two wb (fun k => w3.heap.size ≤ k ∧ k < w3.heap.size + 3) 1 3 _ _ _ _ hr1 hr2 (fun _ k hk => by have hq : w3.heap.size = k := Option.some.inj hk; omega) (fun _ k hk => by have hq : w3.heap.size + 1 = k := Option.some.inj hk; omega) (by omega)
  rw [hsz2] at hpg
  have tc := tab.alloc (.cells #[.int .i64 1, .slice (some ⟨w3.heap.size, 0, none⟩) 3 3, .int .i64 3, .slice (some ⟨w3.heap.size + 1, 0, none⟩) 3 3] 46)
  have hsz3 : (wb.alloc (.cells #[.int .i64 1, .slice (some ⟨w3.heap.size, 0, none⟩) 3 3, .int .i64 3, .slice (some ⟨w3.heap.size + 1, 0, none⟩) 3 3] 46)).heap.size = w3.heap.size + 3 := by simp [hsz2]
  obtain ⟨wc, hwc⟩ : ∃ wc, wb.alloc (.cells #[.int .i64 1, .slice (some ⟨w3.heap.size, 0, none⟩) 3 3, .int .i64 3, .slice (some ⟨w3.heap.size + 1, 0, none⟩) 3 3] 46) = wc := ⟨_, rfl⟩
  rw [hwc] at hpg tc hsz3 ⊢
  clear hwc
  have hJlt := HJ2.out.jh.jat.lt
  refine (write_h wc F2 _ J D d2 L2 _ 700 _ _ (HJ2.out.turn0 tc) HA2.out hpg (fun k hk => ⟨by omega, fun hF => by have := HJ2.out.jh.dh.2 k hF; omega, by omega⟩) (fun x hx => by
    simp at hx
    rcases hx with rfl | rfl
    · exact three_ok 111 110 101 (by omega)
    · exact three_ok 116 119 111 (by omega)) (by decide) (by decide)).mono ?_
  rintro e w4 ⟨rfl, F4, d4, L4, hj4, ha4, hs4⟩
  have hF2 : ∀ k, F2 k → w.heap.size ≤ k := fun k hk => by
    rcases hs2.grown k hk with h | h
    · exact hF1 k h
    · have := t1.size; omega
  have T4 : Turn (fun _ => False) w w4 := ((t1.trans hs2.turn (fun k hk h => by have := hF1 k h; omega)).trans tc (fun _ _ => id)).trans hs4.turn (fun k hk h => by
    have := t1.size
    rcases h with h | h
    · have := hF2 k h; omega
    · omega)
  have hF4 : ∀ k, F4 k → w.heap.size ≤ k := fun k hk => by
    rcases hs4.grown k hk with h | h
    · exact hF2 k h
    · have := t1.size; have := hs2.turn.size; omega
  have HJ4 := Lib.hid hj4
  clear hj4 hpg hr1 hr2 tab
  go_wp2_with fail
  refine (crash_h w4 F4 D d4 L4 _ 700 _ [] HJ4.out.dc (nil_src _) (fun h => by simp at h) (fun x hx => by simp at hx) (by simp)).mono ?_
  rintro e w5 ⟨rfl, F5, d5, hd5, ha5, hs5⟩
  have HD5 := Lib.hid hd5
  clear hd5
  go_wp2_with fail
  refine (open_h w5 F5 D d5 L4 _ 600 HD5.out ha5 (by have := HJ4.out.lim; omega)).mono ?_
  rintro e w6 ⟨J6, F6, d6, L6, rfl, hj6, ha6, hJ6, hs6, hL6⟩
  have HJ6 := Lib.hid hj6
  clear hj6
  go_wp2_with fail
  refine (read_h w6 F6 J6 D d6 L6 _ 600 3 HJ6.out (by rw [putM_len]; decide)).mono ?_
  rintro e w7 ⟨B, rfl, hB, hBl, hr7, t7⟩
  have hsec : (putM (List.replicate (60 - 49) noughts) [(1, [111, 110, 101]), (3, [116, 119, 111])]).getD 3 [] = pad64 [116, 119, 111] := by rfl
  rw [hsec] at hr7
  clear hsec
  have hconv : (convert 31 9 (.slice (some ⟨B, 0, none⟩) 3 64)).run Try.prog w7 = .ok (.string (strOfNums [116, 119, 111])) w7 := by
    refine Reads.conv (.inr ⟨B, 0, 64, rfl, by decide, fun i hi => ?_⟩)
    rw [Nat.zero_add, sec_cell hr7 i (by simp at hi; simp [pad64]; omega)]
    match i, hi with
    | 0, _ => rfl
    | 1, _ => rfl
    | 2, _ => rfl
  clear hr7
  have hstr : strOfNums [116, 119, 111] = { data := #[116, 119, 111] } := by rfl
  rw [hstr] at hconv
  go_wp2_with fail
  go_ret
  have T5 := T4.trans hs5.turn (fun k hk h => by have := hF4 k h; omega)
  have hF5 : ∀ k, F5 k → w.heap.size ≤ k := fun k hk => by
    rcases hs5.grown k hk with h | h
    · exact hF4 k h
    · have := T4.size; omega
  exact ⟨rfl, (T5.trans hs6.turn (fun k hk h => by have := hF5 k h; omega)).trans t7 (fun _ _ => id)⟩
end Go.Proofs.Ytakmkkgpkbpbkaa
