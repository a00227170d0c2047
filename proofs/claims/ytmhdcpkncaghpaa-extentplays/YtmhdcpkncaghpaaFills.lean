/- Own: the walk of the law of filling. No statement is proved here. -/
import Derived.Test.YtmhdcpkncaghpaaOpen
namespace Go.Proofs.Ytmhdcpkncaghpaa
open Go.RowKit
set_option linter.unusedVariables false
set_option linter.unusedSimpArgs false

theorem MapU.ext {w : World} {F : Nat → Prop} {D P : Nat} {U V : Nat → Bool} (h : MapU w F D P U) (e : ∀ p, U p = V p) : MapU w F D P V := by
  have : U = V := funext e
  subst this
  exact h
theorem cnt_below (q P : Nat) (h : q ≤ P) : cnt (fun p => !decide (p < q)) P = P - q := by
  have h1 := cnt_not (fun p => decide (p < q)) P
  have h2 : cnt (fun p => decide (p < q)) P = q := by
    have := cnt_in (0, q) (Nat.zero_le _) P
    have e : cnt (inR (0, q)) P = cnt (fun p => decide (p < q)) P := cnt_congr (fun p _ => by unfold inR; simp)
    rw [e] at this
    rw [this]; show min P q - min P 0 = q; omega
  omega
/-- A map of this law's own. -/
def Mine (w0 w : World) (D P : Nat) (U : Nat → Bool) : Prop := ∃ F, MapU w F D P U ∧ (∀ k, F k → w0.heap.size ≤ k) ∧ Turn (fun _ => False) w0 w
theorem Mine.none {w0 w w' : World} {D P : Nat} {U : Nat → Bool} (h : Mine w0 w D P U) (T : Turn (fun _ => False) w w') : Mine w0 w' D P U := by
  obtain ⟨F, h1, h2, h3⟩ := h
  exact ⟨F, h1.none T, h2, h3.trans T (fun _ _ => id)⟩
theorem Mine.grow {w0 w w' : World} {D P : Nat} {V : Nat → Bool} {F F' : Nat → Prop} (h2 : ∀ k, F k → w0.heap.size ≤ k) (h3 : Turn (fun _ => False) w0 w) (g : Grow w F w' F') (m : MapU w' F' D P V) : Mine w0 w' D P V :=
  ⟨F', m, fun k hk => by
    by_cases hw : k < w.heap.size
    · exact h2 k (g.2 k hw hk)
    · have := h3.size; omega, h3.trans g.1 (fun k hk hF => by have := h2 k hF; omega)⟩

set_option maxHeartbeats 1600000 in
set_option maxRecDepth 100000 in
theorem fills_law (w : World) (n by' : Int) (hn : 0 ≤ n ∧ n < 256) (hby : 0 ≤ by' ∧ by' < 256) : Calls Try.prog 4 #[.int .u8 n, .int .u8 by'] w (None w (.bool true)) := by
  obtain ⟨k, rfl⟩ := Int.eq_ofNat_of_zero_le hn.1
  obtain ⟨c, rfl⟩ := Int.eq_ofNat_of_zero_le hby.1
  obtain ⟨d, hd⟩ : ∃ d, c % 9 = d := ⟨_, rfl⟩
  obtain ⟨b, hb⟩ : ∃ b, 1 + d = b := ⟨_, rfl⟩
  obtain ⟨q, hq⟩ : ∃ q, k / b = q := ⟨_, rfl⟩
  obtain ⟨rr, hrr⟩ : ∃ rr, k % b = rr := ⟨_, rfl⟩
  have hd9 : d < 9 := by rw [← hd]; exact Nat.mod_lt _ (by decide)
  have hb0 : 0 < b := by omega
  have hqb : q * b + rr = k := by rw [← hq, ← hrr, Nat.mul_comm]; exact Nat.div_add_mod k b
  have hrb : rr < b := by rw [← hrr]; exact Nat.mod_lt _ hb0
  have hqk : q ≤ k := by rw [← hq]; exact Nat.div_le_self _ _
  have d1 : (c : Int) % 9 = (d : Int) := by omega
  have d2 : Int.tmod (c : Int) 9 = (d : Int) := by rw [Int.tmod_eq_emod_of_nonneg (by omega)]; exact d1
  have b1 : 1 + (d : Int) = (b : Int) := by omega
  have q1 : (k : Int) / (b : Int) = (q : Int) := by rw [← hq]; first | rfl | simp
  have q2 : Int.tdiv (k : Int) (b : Int) = (q : Int) := by rw [Int.tdiv_eq_ediv_of_nonneg (by omega)]; exact q1
  have r1 : (k : Int) % (b : Int) = (rr : Int) := by rw [← hrr]; exact (Int.natCast_emod k b).symm
  have r2 : Int.tmod (k : Int) (b : Int) = (rr : Int) := by rw [Int.tmod_eq_emod_of_nonneg (by omega)]; exact r1
  have bz : ¬ ((b : Int) = 0) := by omega
  have bz2 : ((b : Int) == 0) = false := by rw [beq_eq_false_iff_ne]; omega
  have bm : ¬ ((b : Int) = -1) := by omega
  have HD := Lib.hid hd
  have HB := Lib.hid hb
  have HQ := Lib.hid hq
  have HR := Lib.hid hrr
  have HQB := Lib.hid hqb
  clear hd hb hq hrr hqb
  go_enter Try.func4, Try.ntmps4
  go_wp2_with fail
  refine (awake_any w).mono ?_
  rintro e w1 ⟨rfl, T1⟩
  go_wp2_with fail
  refine (new_h w1 (k : Int) (by omega)).mono ?_
  rintro e w2 ⟨D, F, rfl, h2, hF, T2⟩
  have hm : Mine w1 w2 D k (fun p => decide (p < 0 * b)) := ⟨F, by rw [Int.toNat_natCast] at h2; exact h2.ext (fun p => by simp), hF, T2⟩
  have HM0 := Lib.hid hm
  clear hm h2
  go_wp2_with fail
  go_loopw [8] (fun iv wr => ∃ i : Nat, i ≤ q ∧ iv = .int .i64 (i : Int) ∧ Mine w1 wr D k (fun p => decide (p < i * b))) (fun iv _ => (q - intOf iv).toNat)
  case atStart => exact ⟨0, Nat.zero_le _, rfl, HM0.out⟩
  case round =>
    obtain ⟨i, hi, rfl, hmi⟩ := hrel
    obtain ⟨F, hm, hF, T⟩ := hmi
    have HM := Lib.hid hm
    have HT := Lib.hid T
    clear hm T
    by_cases hlt : i < q
    · have hib : i * b + b ≤ q * b := by rw [← Nat.succ_mul]; exact Nat.mul_le_mul_right _ hlt
      have hqb := HQB.out
      obtain ⟨z, hz⟩ : ∃ z, i * b = z := ⟨_, rfl⟩
      have hz1 : (i : Int) * (b : Int) = (z : Int) := by rw [← hz]; exact (Int.natCast_mul i b).symm
      rw [hz] at hib
      have hle : Least (fun p => decide (p < i * b)) k b (some z) := by
        rw [hz]
        refine ⟨⟨by omega, fun j hj => decide_eq_false (by omega)⟩, fun p hp hf => ?_⟩
        have := of_decide_eq_false (hf.2 0 hb0)
        omega
      have HZ := Lib.hid hz
      have hzk : z ≤ 255 := by omega
      have hzb : z + b ≤ k := by omega
      have HLE := Lib.hid hle
      clear hle hz hqb
      have hiI : (i : Int) < (q : Int) := by omega
      go_wp2_with fail
      refine (find_h wr F D k _ HM.out (by omega) b hb0 (by omega) _ HLE.out).mono ?_
      rintro e w3 ⟨rfl, T3⟩
      rw [show optI (some z) = (z : Int) from rfl]
      go_wp2_with fail
      refine (take_yes w3 F D k _ (HM.out.none T3) (by omega) z b (by omega) (fun p h1 h2 => by rw [HZ.out]; exact decide_eq_false (by omega))).mono ?_
      rintro e w4 ⟨rfl, F4, g4, h4⟩
      have hmn : Mine w1 w4 D k (fun p => decide (p < (i + 1) * b)) := (Mine.grow hF (HT.out.trans T3 (fun _ _ => id)) g4 (h4.ext (fun p => by
        show (decide (p < i * b) || inR (z, z + b) p) = decide (p < (i + 1) * b)
        rw [HZ.out, Nat.succ_mul, HZ.out]
        unfold inR
        rw [Bool.eq_iff_iff]
        simp
        omega)))
      have HMN := Lib.hid hmn
      clear hmn h4 g4
      go_wp2_with fail
      go_roundw
      case measure => simp [intOf]; omega
      case rel => exact ⟨i + 1, by omega, by simp, HMN.out⟩
    · obtain rfl : i = q := by omega
      have hiI : ¬ ((i : Int) < (i : Int)) := by omega
      have hqb := HQB.out
      have HLE := Lib.hid (show Least (fun p => decide (p < i * b)) k b none from fun p hf => by
        have h1 := hf.1
        have h2 := of_decide_eq_false (hf.2 0 hb0)
        omega)
      have HLF := Lib.hid (show ∀ w3, Turn (fun _ => False) wr w3 → Calls Try.prog 14 #[.pointer (some ⟨D, 0, none⟩)] w3 (None w3 (.int .i64 (rr : Int))) from fun w3 T3 => by
        have := left_h w3 F D k _ (HM.out.none T3) (by omega)
        rw [cnt_below _ _ (by omega), show k - i * b = rr by omega] at this
        exact this)
      clear hqb
      go_wp2_with fail
      refine wp_region_held_drew (S := fun _ => True) (by kernel_rfl) trivial (fun hHeld => ?_)
      refine wpAnyH_take (i := 0) (v := .pointer (some ⟨D, 0, none⟩)) rfl (by kernel_rfl) (by kernel_rfl) (by kernel_rfl) (fun _ _ _ h => h) (Or.inl ⟨by rfl, ?yf0⟩) (by assumption) ?rf0
      case yf0 => (intro wq hSw; (try simp only [List.getElem_toArray, List.getElem_cons_zero, List.getElem_cons_succ]); go_simp; (try with_reducible rfl); all_goals (try omega))
      case rf0 =>
      try simp only [Act.put, List.setIfInBounds_toArray, List.set_cons_zero, List.set_cons_succ, List.getElem_toArray, List.getElem_cons_zero, List.getElem_cons_succ]
      refine wpAnyH_take (i := 1) (v := .int .i64 (b : Int)) rfl (by kernel_rfl) (by kernel_rfl) (by kernel_rfl) (fun _ _ _ h => h) (Or.inl ⟨by rfl, ?yf1⟩) (by assumption) ?rf1
      case yf1 => (intro wq hSw; (try simp only [List.getElem_toArray, List.getElem_cons_zero, List.getElem_cons_succ]); go_simp; (try with_reducible rfl); all_goals (try omega))
      case rf1 =>
      try simp only [Act.put, List.setIfInBounds_toArray, List.set_cons_zero, List.set_cons_succ, List.getElem_toArray, List.getElem_cons_zero, List.getElem_cons_succ]
      refine wpAnyH_ready (rs := [2]) (by kernel_rfl) (by simp) ?_
      refine AllReadyH.cons rfl (fun K hK => ?_) AllReadyH.nil
      go_simp
      refine (find_h _ F D k _ (HM.out.none (Turn.refl _ _).drew) (by omega) b hb0 (by omega) none HLE.out).mono ?_
      rintro e w5 ⟨rfl, T5⟩
      rw [show optI none = -1 from rfl]
      refine hK.out _ _ trivial (fun _ => ?_)
      clear hK K
      try simp only [Act.put, List.setIfInBounds_toArray, List.set_cons_zero, List.set_cons_succ, List.getElem_toArray, List.getElem_cons_zero, List.getElem_cons_succ]
      refine wpAnyH_take (i := 3) (v := .bool true) rfl (by kernel_rfl) (by kernel_rfl) (by kernel_rfl) (fun _ _ _ h => h) (Or.inl ⟨by rfl, ?yf3⟩) (by assumption) ?rf3
      case yf3 => (intro wq hSw; (try simp only [List.getElem_toArray, List.getElem_cons_zero, List.getElem_cons_succ]); go_simp; (try with_reducible rfl); all_goals (try omega))
      case rf3 =>
      try simp only [Act.put, List.setIfInBounds_toArray, List.set_cons_zero, List.set_cons_succ, List.getElem_toArray, List.getElem_cons_zero, List.getElem_cons_succ]
      refine wpAnyH_take (i := 4) (v := .bool true) rfl (by kernel_rfl) (by kernel_rfl) (by kernel_rfl) (fun _ _ _ h => h) (Or.inl ⟨by rfl, ?yf4⟩) (by assumption) ?rf4
      case yf4 => (intro wq hSw; (try simp only [List.getElem_toArray, List.getElem_cons_zero, List.getElem_cons_succ]); go_simp; (try with_reducible rfl); all_goals (try omega))
      case rf4 =>
      try simp only [Act.put, List.setIfInBounds_toArray, List.set_cons_zero, List.set_cons_succ, List.getElem_toArray, List.getElem_cons_zero, List.getElem_cons_succ]
      refine wpAnyH_take (i := 5) (v := .pointer (some ⟨D, 0, none⟩)) rfl (by kernel_rfl) (by kernel_rfl) (by kernel_rfl) (fun _ _ _ h => h) (Or.inl ⟨by rfl, ?yf5⟩) (by assumption) ?rf5
      case yf5 => (intro wq hSw; (try simp only [List.getElem_toArray, List.getElem_cons_zero, List.getElem_cons_succ]); go_simp; (try with_reducible rfl); all_goals (try omega))
      case rf5 =>
      try simp only [Act.put, List.setIfInBounds_toArray, List.set_cons_zero, List.set_cons_succ, List.getElem_toArray, List.getElem_cons_zero, List.getElem_cons_succ]
      refine wpAnyH_take (i := 7) (v := .int .i64 (k : Int)) rfl (by kernel_rfl) (by kernel_rfl) (by kernel_rfl) (fun _ _ _ h => h) (Or.inl ⟨by rfl, ?yf7⟩) (by assumption) ?rf7
      case yf7 => (intro wq hSw; (try simp only [List.getElem_toArray, List.getElem_cons_zero, List.getElem_cons_succ]); go_simp; (try with_reducible rfl); all_goals (try omega))
      case rf7 =>
      try simp only [Act.put, List.setIfInBounds_toArray, List.set_cons_zero, List.set_cons_succ, List.getElem_toArray, List.getElem_cons_zero, List.getElem_cons_succ]
      refine wpAnyH_take (i := 8) (v := .int .i64 (b : Int)) rfl (by kernel_rfl) (by kernel_rfl) (by kernel_rfl) (fun _ _ _ h => h) (Or.inl ⟨by rfl, ?yf8⟩) (by assumption) ?rf8
      case yf8 => (intro wq hSw; (try simp only [List.getElem_toArray, List.getElem_cons_zero, List.getElem_cons_succ]); go_simp; (try with_reducible rfl); all_goals (try omega))
      case rf8 =>
      try simp only [Act.put, List.setIfInBounds_toArray, List.set_cons_zero, List.set_cons_succ, List.getElem_toArray, List.getElem_cons_zero, List.getElem_cons_succ]
      refine wpAnyH_take (i := 9) (v := .int .i64 (rr : Int)) rfl (by kernel_rfl) (by kernel_rfl) (by kernel_rfl) (fun _ _ _ h => h) (Or.inl ⟨by rfl, ?yf9⟩) (by assumption) ?rf9
      case yf9 => (intro wq hSw; (try simp only [List.getElem_toArray, List.getElem_cons_zero, List.getElem_cons_succ]); go_simp; (try with_reducible rfl); all_goals (try omega))
      case rf9 =>
      try simp only [Act.put, List.setIfInBounds_toArray, List.set_cons_zero, List.set_cons_succ, List.getElem_toArray, List.getElem_cons_zero, List.getElem_cons_succ]
      refine wpAnyH_ready (rs := [6]) (by kernel_rfl) (by simp) ?_
      refine AllReadyH.cons rfl (fun K hK => ?_) AllReadyH.nil
      go_simp
      refine (HLF.out w5 ((Turn.refl _ _).drew.trans T5 (fun _ _ => id))).mono ?_
      rintro e w6 ⟨rfl, T6⟩
      refine hK.out _ _ trivial (fun _ => ?_)
      clear hK K
      try simp only [Act.put, List.setIfInBounds_toArray, List.set_cons_zero, List.set_cons_succ, List.getElem_toArray, List.getElem_cons_zero, List.getElem_cons_succ]
      refine wpAnyH_take (i := 10) (v := .bool true) rfl (by kernel_rfl) (by kernel_rfl) (by kernel_rfl) (fun _ _ _ h => h) (Or.inl ⟨by rfl, ?yf10⟩) (by assumption) ?rf10
      case yf10 => (intro wq hSw; (try simp only [List.getElem_toArray, List.getElem_cons_zero, List.getElem_cons_succ]); go_simp; (try with_reducible rfl); all_goals (try omega))
      case rf10 =>
      try simp only [Act.put, List.setIfInBounds_toArray, List.set_cons_zero, List.set_cons_succ, List.getElem_toArray, List.getElem_cons_zero, List.getElem_cons_succ]
      refine wpAnyH_take (i := 11) (v := .bool true) rfl (by kernel_rfl) (by kernel_rfl) (by kernel_rfl) (fun _ _ _ h => h) (Or.inl ⟨by rfl, ?yf11⟩) (by assumption) ?rf11
      case yf11 => (intro wq hSw; (try simp only [List.getElem_toArray, List.getElem_cons_zero, List.getElem_cons_succ]); go_simp; (try with_reducible rfl); all_goals (try omega))
      case rf11 =>
      try simp only [Act.put, List.setIfInBounds_toArray, List.set_cons_zero, List.set_cons_succ, List.getElem_toArray, List.getElem_cons_zero, List.getElem_cons_succ]
      refine wpAnyH_take (i := 12) (v := .bool true) rfl (by kernel_rfl) (by kernel_rfl) (by kernel_rfl) (fun _ _ _ h => h) (Or.inl ⟨by rfl, ?yf12⟩) (by assumption) ?rf12
      case yf12 => (intro wq hSw; (try simp only [List.getElem_toArray, List.getElem_cons_zero, List.getElem_cons_succ]); go_simp; (try with_reducible rfl); all_goals (try omega))
      case rf12 =>
      try simp only [Act.put, List.setIfInBounds_toArray, List.set_cons_zero, List.set_cons_succ, List.getElem_toArray, List.getElem_cons_zero, List.getElem_cons_succ]
      refine wpAnyH_done (by kernel_rfl) ?_ _
      go_wp2_with fail
      go_ret
      exact ⟨rfl, (((T1.trans HT.out (fun _ _ => id)).drew.trans T5 (fun _ _ => id)).trans T6 (fun _ _ => id))⟩
end Go.Proofs.Ytmhdcpkncaghpaa
