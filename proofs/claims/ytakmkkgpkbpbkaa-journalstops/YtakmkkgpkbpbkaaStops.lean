/- Own: the walk of JournalStops. -/
import Derived.Test.YtakmkkgpkbpbkaaHarm
namespace Go.Proofs.Ytakmkkgpkbpbkaa
open Go.RowKit
set_option linter.unusedVariables false
set_option linter.unusedSimpArgs false

theorem front3 {w : World} {B : Nat} {a b c : Int} (h : w.rangeAt B 0 (secV (pad64 [a, b, c]))) : (convert 31 9 (.slice (some ⟨B, 0, none⟩) 3 64)).run Try.prog w = .ok (.string (strOfNums [a, b, c])) w := by
  refine Reads.conv (.inr ⟨B, 0, 64, rfl, by simp, fun i hi => ?_⟩)
  rw [Nat.zero_add, sec_cell h i (by simp at hi; simp [pad64]; omega)]
  match i, hi with
  | 0, _ => rfl
  | 1, _ => rfl
  | 2, _ => rfl
def C6 : List (List Int) := List.replicate (55 - 49) noughts
def oldL : List (Int × List Int) := [(0, [111, 108, 100]), (5, [111, 108, 100])]
def newL : List (Int × List Int) := [(0, [110, 101, 119]), (5, [110, 101, 119])]
def midL : List (Int × List Int) := [(3, [109, 105, 100])]
def C1 : List (List Int) := putM C6 oldL
def C2 (b : Bool) : List (List Int) := if b then putM C1 midL else C1
theorem C2_len (b : Bool) : (C2 b).length = 6 := by cases b <;> rfl
theorem C2_0 (b : Bool) : (C2 b).getD 0 [] = pad64 [111, 108, 100] ∧ (C2 b).getD 5 [] = pad64 [111, 108, 100] := by cases b <;> exact ⟨rfl, rfl⟩
theorem C3_0 (b : Bool) : (putM (C2 b) newL).getD 0 [] = pad64 [110, 101, 119] ∧ (putM (C2 b) newL).getD 5 [] = pad64 [110, 101, 119] := by cases b <;> exact ⟨rfl, rfl⟩
theorem lits_ok (l : List (Int × List Int)) (h : l = oldL ∨ l = newL ∨ l = midL) : ∀ x ∈ l, BytesOk x.2 := fun x hx => by
  rcases h with rfl | rfl | rfl
  · simp [oldL] at hx
    rcases hx with rfl | rfl <;> exact three_ok 111 108 100 (by omega)
  · simp [newL] at hx
    rcases hx with rfl | rfl <;> exact three_ok 110 101 119 (by omega)
  · simp [midL] at hx
    rcases hx with rfl; exact three_ok 109 105 100 (by omega)

set_option maxHeartbeats 8000000 in
set_option maxRecDepth 100000 in
theorem stops_walk (vm : Value) (st : Nat) (ms : List Int) (tw : Bool) (w : World) (hv : Src w vm ms) (om : BytesOk ms) (nm : ∀ k, vm.ownBlock = some k → 0 < ms.length → k < w.heap.size) (hst : st < 256) (hm : ms.length ≤ 20) :
    Calls Try.prog 5 #[.int .u8 (st : Int), vm, .bool tw] w (AwakePost w) := by
  have HV := Lib.hid hv
  have HOM := Lib.hid om
  have HNM := Lib.hid nm
  obtain ⟨am, cm, rfl, _⟩ := src_any hv
  clear hv om nm
  have g1 : decide ((20 : Int) < (ms.length : Int)) = false := by simp; omega
  have g2 : decide (20 < ms.length) = false := by simp; omega
  obtain ⟨k, hk⟩ : ∃ k, st % 14 = k := ⟨_, rfl⟩
  have hk4 : k < 14 := by omega
  have hmod : ((st : Int)).tmod 14 = (k : Int) := by rw [Int.tmod_eq_emod_of_nonneg (by omega)]; omega
  clear hk
  go_enter Try.func5, Try.ntmps5
  go_wp2_with fail
  refine (awake_any w).mono ?_
  rintro e w1 ⟨rfl, t1⟩
  go_wp2_with fail
  refine (new_h w1 55 2000 (by omega) (by omega)).mono ?_
  rintro e w2 ⟨D, F2, rfl, hd2, hF2, t2⟩
  have HD2 := Lib.hid hd2
  clear hd2
  go_wp2_with fail
  refine (open_h w2 F2 D (newM 55) 0 _ 1900 HD2.out rfl (by omega)).mono ?_
  rintro e w3 ⟨J, F3, d3, L3, rfl, hj3, ha3, hJ3, hs3, hL3⟩
  have T3 : Turn (fun _ => False) w w3 := ((t1.trans t2 (fun _ _ => id))).trans hs3.turn (fun q hq h => by have := hF2 q h; have := t1.size; omega)
  have hF3 : ∀ q, F3 q → w.heap.size ≤ q := fun q hq => by
    have := t1.size; have := t2.size
    rcases hs3.grown q hq with h | h
    · have := hF2 q h; omega
    · omega
  have hj3' : JC w3 F3 J D d3 L3 C6 1900 := hj3
  have HJ3 := Lib.hid hj3'
  have HA3 := Lib.hid ha3
  have hJw : w.heap.size ≤ J := by have := t1.size; have := t2.size; omega
  clear hj3 ha3 hs3 hF2 hj3' t1 t2 hJ3
  have hcv1 := conv_three w3 111 108 100
  have hcv2 := conv_three (w3.alloc (.cells #[.int .u8 111, .int .u8 108, .int .u8 100] 5 (3, 4))) 111 108 100
  have hsz1 : (w3.alloc (.cells #[.int .u8 111, .int .u8 108, .int .u8 100] 5 (3, 4))).heap.size = w3.heap.size + 1 := by simp
  rw [hsz1] at hcv2
  go_wp2_with fail
  obtain ⟨hpg, tg, hsz⟩ := two_lits w3 0 5 111 108 100 111 108 100
  generalize ((w3.alloc (.cells #[.int .u8 111, .int .u8 108, .int .u8 100] 5 (3, 4))).alloc (.cells #[.int .u8 111, .int .u8 108, .int .u8 100] 5 (3, 4))).alloc (.cells #[.int .i64 0, .slice (some ⟨w3.heap.size, 0, none⟩) 3 3, .int .i64 5, .slice (some ⟨w3.heap.size + 1, 0, none⟩) 3 3] 46) = w4 at hpg tg hsz ⊢
  clear hcv1 hcv2 hsz1
  have hJlt := HJ3.out.jh.jat.lt
  refine (write_h w4 F3 _ J D d3 L3 C6 1700 _ oldL (HJ3.out.turn0 tg) HA3.out hpg (fun q hq => ⟨by omega, fun hF => by have := HJ3.out.jh.dh.2 q hF; omega, by omega⟩) (lits_ok oldL (.inl rfl)) (by decide) (by decide)).mono ?_
  rintro e w5 ⟨rfl, F5, d5, L5, hj5, ha5, hs5⟩
  have T5 : Turn (fun _ => False) w w5 := (T3.trans tg (fun _ _ => id)).trans hs5.turn (fun q hq h => by
    rcases h with h | h
    · have := hF3 q h; omega
    · omega)
  have hF5 : ∀ q, F5 q → w.heap.size ≤ q := fun q hq => by
    rcases hs5.grown q hq with h | h
    · exact hF3 q h
    · have := T3.size; omega
  have HJ5 := Lib.hid (show JC w5 F5 J D d5 L5 C1 1700 from hj5)
  have HA5 := Lib.hid ha5
  clear hj5 ha5 hs5 hpg tg hsz T3 hF3
  clear HJ3 HA3 hJlt hL3
  cases tw with
  | false =>
    go_wp2_with fail
    refine (arm_h w5 F5 J D d5 L5 (C2 false) 1700 (k : Int) HJ5.out (by omega)).mono ?_
    rintro e w7 ⟨rfl, F7, hj7, hs7⟩
    have T7 : Turn (fun _ => False) w w7 := T5.trans hs7.turn (fun q hq h => by have := hF5 q h; omega)
    have hF7 : ∀ q, F7 q → w.heap.size ≤ q := fun q hq => by
      rcases hs7.grown q hq with h | h
      · exact hF5 q h
      · have := T5.size; omega
    have HJ7 := Lib.hid hj7
    clear hj7 hs7
    have hcv1 := conv_three w7 110 101 119
    have hcv2 := conv_three (w7.alloc (.cells #[.int .u8 110, .int .u8 101, .int .u8 119] 5 (3, 4))) 110 101 119
    have hsz1 : (w7.alloc (.cells #[.int .u8 110, .int .u8 101, .int .u8 119] 5 (3, 4))).heap.size = w7.heap.size + 1 := by simp
    rw [hsz1] at hcv2
    go_wp2_with fail
    obtain ⟨hpg, tg, hsz⟩ := two_lits w7 0 5 110 101 119 110 101 119
    generalize ((w7.alloc (.cells #[.int .u8 110, .int .u8 101, .int .u8 119] 5 (3, 4))).alloc (.cells #[.int .u8 110, .int .u8 101, .int .u8 119] 5 (3, 4))).alloc (.cells #[.int .i64 0, .slice (some ⟨w7.heap.size, 0, none⟩) 3 3, .int .i64 5, .slice (some ⟨w7.heap.size + 1, 0, none⟩) 3 3] 46) = w8 at hpg tg hsz ⊢
    clear hcv1 hcv2 hsz1
    have hJlt := HJ7.out.jh.jat.lt
    refine (write_h2 w8 F7 _ J D _ L5 (C2 false) 1500 _ newL (HJ7.out.turn0 tg) hpg (fun q hq => ⟨by omega, fun hF => by have := HJ7.out.jh.dh.2 q hF; omega, by omega⟩) (lits_ok newL (.inr (.inl rfl))) (by decide) (by rw [C2_len]; decide)).mono ?_
    rintro e w9 ⟨r, F9, d9, L9, rfl, hj9, hs9, hr9, hL9, hl9⟩
    have T9 : Turn (fun _ => False) w w9 := (T7.trans tg (fun _ _ => id)).trans hs9.turn (fun q hq h => by
      rcases h with h | h
      · have := hF7 q h; omega
      · omega)
    have hF9 : ∀ q, F9 q → w.heap.size ≤ q := fun q hq => by
      rcases hs9.grown q hq with h | h
      · exact hF7 q h
      · have := T7.size; omega
    have hlim := HJ7.out.lim
    have HJ9 := Lib.hid hj9
    have HR9 := Lib.hid hr9
    have HL9 := Lib.hid hl9
    clear hj9 hr9 hl9 hs9 hpg tg hsz
    go_wp2_with fail
    refine (crash_h2 w9 F9 J D d9 L9 (C2 false) (putM (C2 false) newL) 1500 r _ _ ms HJ9.out HR9.out HL9.out (by rw [C2_len]; omega) (by rw [putM_len, C2_len]; omega) (HV.out.turn T9 (fun _ _ => id)) (fun h0 q hq hF => by have := HNM.out q hq h0; have := hF9 q hF; omega) HOM.out (by omega)).mono ?_
    rintro e w10 ⟨rfl, F10, d10, hd10, ha10, hs10⟩
    have T10 : Turn (fun _ => False) w w10 := T9.trans hs10.turn (fun q hq h => by have := hF9 q h; omega)
    have hF10 : ∀ q, F10 q → w.heap.size ≤ q := fun q hq => by
      rcases hs10.grown q hq with h | h
      · exact hF9 q h
      · have := T9.size; omega
    have HA10 := Lib.hid ha10
    have HT10 := Lib.hid T10
    have HF10 := Lib.hid hF10
    clear ha10 hs10 T10 hF10 hF9 T9
    rcases hd10 with hd10 | ⟨rfl, hd10⟩
    · have HD10 := Lib.hid hd10
      clear hd10
      go_wp2_with fail
      refine (open_h w10 F10 D d10 L9 _ 1400 HD10.out HA10.out (by omega)).mono ?_
      rintro e w11 ⟨J11, F11, d11, L11, rfl, hj11, _, _, hs11, _⟩
      have HJ11 := Lib.hid hj11
      clear hj11
      go_wp2_with fail
      refine (read_h w11 F11 J11 D d11 L11 _ 1400 0 HJ11.out (by rw [putM_len, C2_len]; omega)).mono ?_
      rintro e w12 ⟨B, rfl, _, _, hr12, t12⟩
      rw [(C3_0 false).1] at hr12
      have HR12 := Lib.hid hr12
      clear hr12
      go_wp2_with fail
      refine (read_h w12 F11 J11 D d11 L11 _ 1400 5 (HJ11.out.turn0 t12) (by rw [putM_len, C2_len]; omega)).mono ?_
      rintro e w13 ⟨B', rfl, _, _, hr13, t13⟩
      rw [(C3_0 false).2] at hr13
      have cv1 := front3 (rangeAt_turn HR12.out t13 id)
      have cv2 := front3 hr13
      have hstr : strOfNums [110, 101, 119] = { data := #[110, 101, 119] } := by rfl
      rw [hstr] at cv1 cv2
      clear hr13 hstr
      have HT := Lib.hid (((HT10.out.trans hs11.turn (fun q hq h => by have := HF10.out q h; omega)).trans t12 (fun _ _ => id)).trans t13 (fun _ _ => id))
      clear hs11 t12 t13
      go_wp2_with fail
      go_ret
      exact ⟨rfl, HT.out⟩
    · have HD10 := Lib.hid hd10
      clear hd10
      go_wp2_with fail
      refine (open_h w10 F10 D d10 L9 _ 1400 HD10.out HA10.out (by omega)).mono ?_
      rintro e w11 ⟨J11, F11, d11, L11, rfl, hj11, _, _, hs11, _⟩
      have HJ11 := Lib.hid hj11
      clear hj11
      go_wp2_with fail
      refine (read_h w11 F11 J11 D d11 L11 _ 1400 0 HJ11.out (by rw [C2_len]; omega)).mono ?_
      rintro e w12 ⟨B, rfl, _, _, hr12, t12⟩
      rw [(C2_0 false).1] at hr12
      have HR12 := Lib.hid hr12
      clear hr12
      go_wp2_with fail
      refine (read_h w12 F11 J11 D d11 L11 _ 1400 5 (HJ11.out.turn0 t12) (by rw [C2_len]; omega)).mono ?_
      rintro e w13 ⟨B', rfl, _, _, hr13, t13⟩
      rw [(C2_0 false).2] at hr13
      have cv1 := front3 (rangeAt_turn HR12.out t13 id)
      have cv2 := front3 hr13
      have hstr : strOfNums [111, 108, 100] = { data := #[111, 108, 100] } := by rfl
      rw [hstr] at cv1 cv2
      clear hr13 hstr
      have HT := Lib.hid (((HT10.out.trans hs11.turn (fun q hq h => by have := HF10.out q h; omega)).trans t12 (fun _ _ => id)).trans t13 (fun _ _ => id))
      clear hs11 t12 t13
      go_wp2_with fail
      go_ret
      exact ⟨rfl, HT.out⟩
  | true =>
    have hcv1 := conv_three w5 109 105 100
    go_wp2_with fail
    obtain ⟨hpg, tg, hsz⟩ := one_lit w5 3 109 105 100
    generalize (w5.alloc (.cells #[.int .u8 109, .int .u8 105, .int .u8 100] 5 (3, 4))).alloc (.cells #[.int .i64 3, .slice (some ⟨w5.heap.size, 0, none⟩) 3 3] 46) = w5a at hpg tg hsz ⊢
    clear hcv1
    have hJlt5 := HJ5.out.jh.jat.lt
    refine (write_h w5a F5 _ J D d5 L5 C1 1500 _ midL (HJ5.out.turn0 tg) HA5.out hpg (fun q hq => ⟨by omega, fun hF => by have := HJ5.out.jh.dh.2 q hF; omega, by omega⟩) (lits_ok midL (.inr (.inr rfl))) (by decide) (by decide)).mono ?_
    rintro e w6 ⟨rfl, F6, d6, L6, hj6, ha6, hs6⟩
    have T6 : Turn (fun _ => False) w w6 := (T5.trans tg (fun _ _ => id)).trans hs6.turn (fun q hq h => by
      rcases h with h | h
      · have := hF5 q h; omega
      · omega)
    have hF6 : ∀ q, F6 q → w.heap.size ≤ q := fun q hq => by
      rcases hs6.grown q hq with h | h
      · exact hF5 q h
      · have := T5.size; omega
    have HJ6 := Lib.hid (show JC w6 F6 J D d6 L6 (C2 true) 1500 from hj6)
    clear hj6 ha6 hs6 hpg tg hsz HJ5 HA5 T5 hF5
    go_wp2_with fail
    refine (arm_h w6 F6 J D d6 L6 (C2 true) 1500 (k : Int) HJ6.out (by omega)).mono ?_
    rintro e w7 ⟨rfl, F7, hj7, hs7⟩
    have T7 : Turn (fun _ => False) w w7 := T6.trans hs7.turn (fun q hq h => by have := hF6 q h; omega)
    have hF7 : ∀ q, F7 q → w.heap.size ≤ q := fun q hq => by
      rcases hs7.grown q hq with h | h
      · exact hF6 q h
      · have := T6.size; omega
    have HJ7 := Lib.hid hj7
    clear hj7 hs7
    have hcv1 := conv_three w7 110 101 119
    have hcv2 := conv_three (w7.alloc (.cells #[.int .u8 110, .int .u8 101, .int .u8 119] 5 (3, 4))) 110 101 119
    have hsz1 : (w7.alloc (.cells #[.int .u8 110, .int .u8 101, .int .u8 119] 5 (3, 4))).heap.size = w7.heap.size + 1 := by simp
    rw [hsz1] at hcv2
    go_wp2_with fail
    obtain ⟨hpg, tg, hsz⟩ := two_lits w7 0 5 110 101 119 110 101 119
    generalize ((w7.alloc (.cells #[.int .u8 110, .int .u8 101, .int .u8 119] 5 (3, 4))).alloc (.cells #[.int .u8 110, .int .u8 101, .int .u8 119] 5 (3, 4))).alloc (.cells #[.int .i64 0, .slice (some ⟨w7.heap.size, 0, none⟩) 3 3, .int .i64 5, .slice (some ⟨w7.heap.size + 1, 0, none⟩) 3 3] 46) = w8 at hpg tg hsz ⊢
    clear hcv1 hcv2 hsz1
    have hJlt := HJ7.out.jh.jat.lt
    refine (write_h2 w8 F7 _ J D _ L6 (C2 true) 1300 _ newL (HJ7.out.turn0 tg) hpg (fun q hq => ⟨by omega, fun hF => by have := HJ7.out.jh.dh.2 q hF; omega, by omega⟩) (lits_ok newL (.inr (.inl rfl))) (by decide) (by rw [C2_len]; decide)).mono ?_
    rintro e w9 ⟨r, F9, d9, L9, rfl, hj9, hs9, hr9, hL9, hl9⟩
    have T9 : Turn (fun _ => False) w w9 := (T7.trans tg (fun _ _ => id)).trans hs9.turn (fun q hq h => by
      rcases h with h | h
      · have := hF7 q h; omega
      · omega)
    have hF9 : ∀ q, F9 q → w.heap.size ≤ q := fun q hq => by
      rcases hs9.grown q hq with h | h
      · exact hF7 q h
      · have := T7.size; omega
    have hlim := HJ7.out.lim
    have HJ9 := Lib.hid hj9
    have HR9 := Lib.hid hr9
    have HL9 := Lib.hid hl9
    clear hj9 hr9 hl9 hs9 hpg tg hsz
    go_wp2_with fail
    refine (crash_h2 w9 F9 J D d9 L9 (C2 true) (putM (C2 true) newL) 1300 r _ _ ms HJ9.out HR9.out HL9.out (by rw [C2_len]; omega) (by rw [putM_len, C2_len]; omega) (HV.out.turn T9 (fun _ _ => id)) (fun h0 q hq hF => by have := HNM.out q hq h0; have := hF9 q hF; omega) HOM.out (by omega)).mono ?_
    rintro e w10 ⟨rfl, F10, d10, hd10, ha10, hs10⟩
    have T10 : Turn (fun _ => False) w w10 := T9.trans hs10.turn (fun q hq h => by have := hF9 q h; omega)
    have hF10 : ∀ q, F10 q → w.heap.size ≤ q := fun q hq => by
      rcases hs10.grown q hq with h | h
      · exact hF9 q h
      · have := T9.size; omega
    have HA10 := Lib.hid ha10
    have HT10 := Lib.hid T10
    have HF10 := Lib.hid hF10
    clear ha10 hs10 T10 hF10 hF9 T9
    rcases hd10 with hd10 | ⟨rfl, hd10⟩
    · have HD10 := Lib.hid hd10
      clear hd10
      go_wp2_with fail
      refine (open_h w10 F10 D d10 L9 _ 1200 HD10.out HA10.out (by omega)).mono ?_
      rintro e w11 ⟨J11, F11, d11, L11, rfl, hj11, _, _, hs11, _⟩
      have HJ11 := Lib.hid hj11
      clear hj11
      go_wp2_with fail
      refine (read_h w11 F11 J11 D d11 L11 _ 1200 0 HJ11.out (by rw [putM_len, C2_len]; omega)).mono ?_
      rintro e w12 ⟨B, rfl, _, _, hr12, t12⟩
      rw [(C3_0 true).1] at hr12
      have HR12 := Lib.hid hr12
      clear hr12
      go_wp2_with fail
      refine (read_h w12 F11 J11 D d11 L11 _ 1200 5 (HJ11.out.turn0 t12) (by rw [putM_len, C2_len]; omega)).mono ?_
      rintro e w13 ⟨B', rfl, _, _, hr13, t13⟩
      rw [(C3_0 true).2] at hr13
      have cv1 := front3 (rangeAt_turn HR12.out t13 id)
      have cv2 := front3 hr13
      have hstr : strOfNums [110, 101, 119] = { data := #[110, 101, 119] } := by rfl
      rw [hstr] at cv1 cv2
      clear hr13 hstr
      have HT := Lib.hid (((HT10.out.trans hs11.turn (fun q hq h => by have := HF10.out q h; omega)).trans t12 (fun _ _ => id)).trans t13 (fun _ _ => id))
      clear hs11 t12 t13
      go_wp2_with fail
      go_ret
      exact ⟨rfl, HT.out⟩
    · have HD10 := Lib.hid hd10
      clear hd10
      go_wp2_with fail
      refine (open_h w10 F10 D d10 L9 _ 1200 HD10.out HA10.out (by omega)).mono ?_
      rintro e w11 ⟨J11, F11, d11, L11, rfl, hj11, _, _, hs11, _⟩
      have HJ11 := Lib.hid hj11
      clear hj11
      go_wp2_with fail
      refine (read_h w11 F11 J11 D d11 L11 _ 1200 0 HJ11.out (by rw [C2_len]; omega)).mono ?_
      rintro e w12 ⟨B, rfl, _, _, hr12, t12⟩
      rw [(C2_0 true).1] at hr12
      have HR12 := Lib.hid hr12
      clear hr12
      go_wp2_with fail
      refine (read_h w12 F11 J11 D d11 L11 _ 1200 5 (HJ11.out.turn0 t12) (by rw [C2_len]; omega)).mono ?_
      rintro e w13 ⟨B', rfl, _, _, hr13, t13⟩
      rw [(C2_0 true).2] at hr13
      have cv1 := front3 (rangeAt_turn HR12.out t13 id)
      have cv2 := front3 hr13
      have hstr : strOfNums [111, 108, 100] = { data := #[111, 108, 100] } := by rfl
      rw [hstr] at cv1 cv2
      clear hr13 hstr
      have HT := Lib.hid (((HT10.out.trans hs11.turn (fun q hq h => by have := HF10.out q h; omega)).trans t12 (fun _ _ => id)).trans t13 (fun _ _ => id))
      clear hs11 t12 t13
      go_wp2_with fail
      go_ret
      exact ⟨rfl, HT.out⟩

set_option maxHeartbeats 1600000 in
set_option maxRecDepth 100000 in
theorem journalStops_walk (vm : Value) (st : Int) (ms : List Int) (tw : Bool) (w : World) (hst : 0 ≤ st ∧ st < 256) (hv : Src w vm ms) (om : BytesOk ms) (nm : ∀ k, vm.ownBlock = some k → 0 < ms.length → k < w.heap.size) :
    Calls Try.prog 5 #[.int .u8 st, vm, .bool tw] w (AwakePost w) := by
  obtain ⟨a, rfl⟩ := Int.eq_ofNat_of_zero_le hst.1
  by_cases hm : ms.length ≤ 20
  · exact stops_walk vm a ms tw w hv om nm (by omega) hm
  · obtain ⟨aa, ca, rfl, _⟩ := src_any hv
    clear hv om nm
    have g1 : decide ((20 : Int) < (ms.length : Int)) = true := by simp; omega
    have g2 : decide (20 < ms.length) = true := by simp; omega
    go_enter Try.func5, Try.ntmps5
    go_wp2_with fail
    refine (awake_any w).mono ?_
    rintro e w1 ⟨rfl, t1⟩
    go_wp2_with fail
    refine (awake_any w1).mono ?_
    rintro e w2 ⟨rfl, t2⟩
    go_wp2_with fail
    go_ret
    exact ⟨rfl, t1.trans t2 (fun _ _ => id)⟩
end Go.Proofs.Ytakmkkgpkbpbkaa
