/- Own: the walk of JournalTwice. -/
import Derived.Test.YtakmkkgpkbpbkaaClone
namespace Go.Proofs.Ytakmkkgpkbpbkaa
open Go.RowKit
set_option linter.unusedVariables false
set_option linter.unusedSimpArgs false

theorem fits_two {n : Nat} {a b : Int} {xs ys : List Int} (ha : 0 ≤ a ∧ a < (n : Int)) (hb : 0 ≤ b ∧ b < (n : Int)) (hx : xs.length ≤ 64) (hy : ys.length ≤ 64) : fitsB n [(a, xs), (b, ys)] = true := by
  simp [fitsB, ha.1, ha.2, hb.1, hb.2, hx, hy]
theorem twice_sec (k : Nat) (hk : k < 4) (xs ys : List Int) : (putM (List.replicate (53 - 49) noughts) [((k : Int), xs), ((k : Int), ys)]).getD k [] = pad64 ys := by
  rw [putM_at _ _ k (by simpa using hk)]
  have e : (49 + (k : Int)).toNat = 49 + k := by omega
  simp [layW, lastW, e]
theorem sec_front {w : World} {B : Nat} {ys : List Int} (h : w.rangeAt B 0 (secV (pad64 ys))) (h64 : ys.length ≤ 64) : Reads w (.slice (some ⟨B, 0, none⟩) ys.length 64) ys := by
  refine .inr ⟨B, 0, 64, rfl, h64, fun i hi => ?_⟩
  rw [Nat.zero_add, sec_cell h i (by rw [pad64_len ys h64]; omega)]
  simp [pad64, List.getD, List.getElem?_append_left hi]
set_option maxHeartbeats 4000000 in
set_option maxRecDepth 100000 in
theorem twice_walk (va vb : Value) (xs ys : List Int) (at' : Nat) (w : World) (ha : Src w va xs) (hb : Src w vb ys) (oa : BytesOk xs) (ob : BytesOk ys) (nb : ∀ k, vb.ownBlock = some k → 0 < ys.length → k < w.heap.size)
    (hat : at' < 256) (hx : xs.length ≤ 64) (hy : ys.length ≤ 64) : Calls Try.prog 7 #[va, vb, .int .u8 (at' : Int)] w (AwakePost w) := by
  have HA := Lib.hid ha
  have HB := Lib.hid hb
  have HOA := Lib.hid oa
  have HOB := Lib.hid ob
  have HNB := Lib.hid nb
  obtain ⟨aa, ca, rfl, _⟩ := src_any ha
  obtain ⟨ab, cb, rfl, _⟩ := src_any hb
  clear ha hb oa ob nb
  have g1 : decide ((64 : Int) < (xs.length : Int)) = false := by simp; omega
  have g2 : decide (64 < xs.length) = false := by simp; omega
  have g3 : decide ((64 : Int) < (ys.length : Int)) = false := by simp; omega
  have g4 : decide (64 < ys.length) = false := by simp; omega
  obtain ⟨k, hk⟩ : ∃ k, at' % 4 = k := ⟨_, rfl⟩
  have hk4 : k < 4 := by omega
  have hmod : ((at' : Int)).tmod 4 = (k : Int) := by rw [Int.tmod_eq_emod_of_nonneg (by omega)]; omega
  clear hk
  go_enter Try.func7, Try.ntmps7
  go_wp2_with fail
  refine (awake_any w).mono ?_
  rintro e w1 ⟨rfl, t1⟩
  go_wp2_with fail
  refine (new_h w1 53 1000 (by omega) (by omega)).mono ?_
  rintro e w2 ⟨D, F2, rfl, hd2, hF2, t2⟩
  have HD2 := Lib.hid hd2
  clear hd2
  go_wp2_with fail
  refine (open_h w2 F2 D (newM 53) 0 _ 900 HD2.out rfl (by omega)).mono ?_
  rintro e w3 ⟨J, F3, d3, L3, rfl, hj3, ha3, hJ3, hs3, hL3⟩
  have T3 : Turn (fun _ => False) w w3 := ((t1.trans t2 (fun _ _ => id))).trans hs3.turn (fun q hq h => by have := hF2 q h; have := t1.size; omega)
  have hF3 : ∀ q, F3 q → w.heap.size ≤ q := fun q hq => by
    have := t1.size; have := t2.size
    rcases hs3.grown q hq with h | h
    · have := hF2 q h; omega
    · omega
  have HJ3 := Lib.hid hj3
  have HA3 := Lib.hid ha3
  have hJw : w.heap.size ≤ J := by have := t1.size; have := t2.size; omega
  clear hj3 ha3 hs3 hF2
  have hsa3 := HA.out.turn T3 (fun _ _ => id)
  obtain ⟨vp, w4, hap, hop, tp, hfp⟩ := run_append_src w3 w3.heap.size (.slice none 0 0) (.slice aa xs.length ca) 0 [] xs (World.ownsRow_nil _ _ _ _) hsa3 (Nat.le_refl _) (by omega)
  rw [Nat.zero_add, List.nil_append] at hop
  have tp' : Turn (fun _ => False) w3 w4 := tp.mono (fun q _ h => by simp [Value.ownBlock] at h)
  have HAP := Lib.hid hap
  obtain ⟨pa, pc, rfl, hpc, hpo⟩ := own_slice hop
  have HRP := Lib.hid (Reads.of_owns hop)
  have HPO := Lib.hid hpo
  clear hap hop tp hfp hsa3 hpo
  go_wp2_with (at_builtin; refine Lib.wpList_append_run _ rfl _ _ _ _ rfl _ _ rfl rfl _ _ HAP.out ?_)
  have T4 := T3.trans tp' (fun _ _ => id)
  have hsz4 := tp'.size
  have hJlt := HJ3.out.jh.jat.lt
  have hF3l := HJ3.out.jh.dh.2
  have hpg := pages_two w4 (fun q => q < w.heap.size ∨ (w3.heap.size ≤ q ∧ q < w4.heap.size + 1)) (k : Int) (k : Int) (.slice pa xs.length pc) (.slice ab ys.length cb) xs ys (.inl HRP.out) (HB.out.turn T4 (fun _ _ => id)) (fun _ q hq => .inr ⟨(HPO.out q hq).1, by have := (HPO.out q hq).2; omega⟩) (fun h0 q hq => .inl (HNB.out q hq h0)) (.inr ⟨by omega, by omega⟩)
  have t5 := (Turn.refl (fun _ => False) w4).alloc (.cells #[.int .i64 (k : Int), .slice pa xs.length pc, .int .i64 (k : Int), .slice ab ys.length cb] 46)
  have hsz5 : (w4.alloc (.cells #[.int .i64 (k : Int), .slice pa xs.length pc, .int .i64 (k : Int), .slice ab ys.length cb] 46)).heap.size = w4.heap.size + 1 := by simp
  obtain ⟨w5, hw5⟩ : ∃ w5, w4.alloc (.cells #[.int .i64 (k : Int), .slice pa xs.length pc, .int .i64 (k : Int), .slice ab ys.length cb] 46) = w5 := ⟨_, rfl⟩
  rw [hw5] at hpg t5 hsz5 ⊢
  have T35 := tp'.trans t5 (fun _ _ => id)
  have T5 := T4.trans t5 (fun _ _ => id)
  clear hw5
  refine (write_h w5 F3 _ J D d3 L3 _ 700 _ _ (HJ3.out.turn0 T35) HA3.out hpg (fun q hq => ⟨by have := T3.size; omega, fun hF => by have := hF3l q hF; have := hF3 q hF; omega, by omega⟩) (fun x hx' => by
    simp at hx'
    rcases hx' with rfl | rfl
    · exact HOA.out
    · exact HOB.out) (by simp) (fits_two (by simp; omega) (by simp; omega) hx hy)).mono ?_
  rintro e w6 ⟨rfl, F6, d6, L6, hj6, ha6, hs6⟩
  have hF6 : ∀ q, F6 q → w.heap.size ≤ q := fun q hq => by
    rcases hs6.grown q hq with h | h
    · exact hF3 q h
    · have := T5.size; omega
  have T6 : Turn (fun _ => False) w w6 := T5.trans hs6.turn (fun q hq h => by
    rcases h with h | h
    · have := hF3 q h; omega
    · omega)
  have hpn6 : ∀ q, (Value.slice pa xs.length pc).ownBlock = some q → q < w5.heap.size ∧ ¬ F6 q := fun q hq => by
    have h1 := HPO.out q hq
    exact ⟨by omega, hs6.out (by omega) (fun h => by have := hF3l q h; omega)⟩
  have HRP6 := Lib.hid (((HRP.out.turn t5 (fun _ _ => id)).turn hs6.turn (fun q hq h => by
    have h1 := HPO.out q hq
    rcases h with h | h
    · have := hF3l q h; omega
    · omega)))
  have HJ6 := Lib.hid hj6
  have hF6l := hj6.jh.dh.2
  clear hj6 hpg
  go_wp2_with fail
  refine (read_h w6 F6 J D d6 L6 _ 700 k HJ6.out (by rw [putM_len]; simpa using hk4)).mono ?_
  rintro e w7 ⟨B, rfl, hB, hBl, hr7, t7⟩
  rw [twice_sec k hk4] at hr7
  have HR7 := Lib.hid hr7
  clear hr7
  go_wp2_with fail
  refine (crash_h w7 F6 D d6 L6 _ 700 _ [] (HJ6.out.turn0 t7).dc (nil_src _) (fun h => by simp at h) (fun x hx => by simp at hx) (by simp)).mono ?_
  rintro e w8 ⟨rfl, F8, d8, hd8, ha8, hs8⟩
  have HD8 := Lib.hid hd8
  clear hd8
  go_wp2_with fail
  refine (open_h w8 F8 D d8 L6 _ 600 HD8.out ha8 (by have := HJ6.out.lim; omega)).mono ?_
  rintro e w9 ⟨J9, F9, d9, L9, rfl, hj9, ha9, hJ9, hs9, hL9⟩
  have HJ9 := Lib.hid hj9
  clear hj9
  have hs79 := hs8.trans hs9
  go_wp2_with fail
  refine (read_h w9 F9 J9 D d9 L9 _ 600 k HJ9.out (by rw [putM_len]; simpa using hk4)).mono ?_
  rintro e w10 ⟨B10, rfl, hB10, hBl10, hr10, t10⟩
  rw [twice_sec k hk4] at hr10
  have hB6 : ¬ F6 B := fun h => by have := hF6l B h; omega
  have hr7' : w10.rangeAt B 0 (secV (pad64 ys)) := rangeAt_turn (rangeAt_turn HR7.out hs79.turn hB6) t10 id
  have hs57 := hs6.turn.size
  have hrp : Reads w10 (.slice pa xs.length pc) xs := ((HRP6.out.turn t7 (fun _ _ => id)).turn hs79.turn (fun q hq => (hpn6 q hq).2)).turn t10 (fun _ _ => id)
  have T10 : Turn (fun _ => False) w w10 := ((T6.trans t7 (fun _ _ => id)).trans hs79.turn (fun q hq h => by have := hF6 q h; omega)).trans t10 (fun _ _ => id)
  have td : Turn (fun _ => False) w10 w10.drew := (Turn.refl _ w10).drew
  have p64 := pad64_len ys hy
  have cv1 := Reads.conv ((sec_front hr7' hy).turn td (fun _ _ => id))
  have cv2 := Src.conv ((HB.out.turn T10 (fun _ _ => id)).turn td (fun _ _ => id))
  have cv3 := Src.conv (sec_src (rangeAt_turn hr7' td id) p64)
  have cv4 := Src.conv (sec_src (rangeAt_turn hr10 td id) p64)
  have cv5 := Reads.conv (hrp.turn td (fun _ _ => id))
  have cv6 := Src.conv ((HA.out.turn T10 (fun _ _ => id)).turn td (fun _ _ => id))
  have hle : (0 : Int) ≤ (ys.length : Int) ∧ (ys.length : Int) ≤ 64 := by omega
  have HT := Lib.hid T10
  clear T10 hr10 hr7' hrp T6 T5 T4 T3 T35 t1 t2 t5 t7 t10 tp' td hs79 hs8 hs9 hs6
  go_wp2_with fail
  go_region
  go_wp2_with fail
  go_ret
  exact ⟨by simp, HT.out.drew⟩
set_option maxHeartbeats 1600000 in
set_option maxRecDepth 100000 in
theorem journalTwice_walk (va vb : Value) (xs ys : List Int) (at' : Int) (w : World) (ha : Src w va xs) (hb : Src w vb ys) (oa : BytesOk xs) (ob : BytesOk ys) (nb : ∀ k, vb.ownBlock = some k → 0 < ys.length → k < w.heap.size)
    (hat : 0 ≤ at' ∧ at' < 256) : Calls Try.prog 7 #[va, vb, .int .u8 at'] w (AwakePost w) := by
  obtain ⟨a, rfl⟩ := Int.eq_ofNat_of_zero_le hat.1
  by_cases hx : xs.length ≤ 64
  · by_cases hy : ys.length ≤ 64
    · exact twice_walk va vb xs ys a w ha hb oa ob nb (by omega) hx hy
    · obtain ⟨aa, ca, rfl, _⟩ := src_any ha
      obtain ⟨ab, cb, rfl, _⟩ := src_any hb
      clear ha hb oa ob nb
      have g1 : decide ((64 : Int) < (xs.length : Int)) = false := by simp; omega
      have g2 : decide (64 < xs.length) = false := by simp; omega
      have g3 : decide ((64 : Int) < (ys.length : Int)) = true := by simp; omega
      have g4 : decide (64 < ys.length) = true := by simp; omega
      go_enter Try.func7, Try.ntmps7
      go_wp2_with fail
      refine (awake_any w).mono ?_
      rintro e w1 ⟨rfl, t1⟩
      go_wp2_with fail
      refine (awake_any w1).mono ?_
      rintro e w2 ⟨rfl, t2⟩
      go_wp2_with fail
      go_ret
      exact ⟨rfl, t1.trans t2 (fun _ _ => id)⟩
  · obtain ⟨aa, ca, rfl, _⟩ := src_any ha
    clear ha hb oa ob nb
    have g1 : decide ((64 : Int) < (xs.length : Int)) = true := by simp; omega
    have g2 : decide (64 < xs.length) = true := by simp; omega
    go_enter Try.func7, Try.ntmps7
    go_wp2_with fail
    refine (awake_any w).mono ?_
    rintro e w1 ⟨rfl, t1⟩
    go_wp2_with fail
    refine (awake_any w1).mono ?_
    rintro e w2 ⟨rfl, t2⟩
    go_wp2_with fail
    go_ret
    exact ⟨rfl, t1.trans t2 (fun _ _ => id)⟩
end Go.Proofs.Ytakmkkgpkbpbkaa
