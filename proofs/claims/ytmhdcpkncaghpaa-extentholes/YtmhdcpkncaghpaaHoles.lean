/- Own: the walk of the law of holes. No statement is proved here. -/
import Derived.Test.YtmhdcpkncaghpaaFills
namespace Go.Proofs.Ytmhdcpkncaghpaa
open Go.RowKit
set_option linter.unusedVariables false
set_option linter.unusedSimpArgs false

/-- Where the holes begin. -/
def posH (xs : List Nat) : Nat → Nat
  | 0 => 0
  | i + 1 => posH xs i + (xs.getD i 0 % 7 + 1)
theorem posH_le (xs : List Nat) (i : Nat) : posH xs i ≤ 7 * i := by
  induction i with
  | zero => exact Nat.le_refl _
  | succ i ih => unfold posH; omega
theorem posH_mono (xs : List Nat) {i j : Nat} (h : i ≤ j) : posH xs i ≤ posH xs j := by
  induction j with
  | zero => obtain rfl : i = 0 := by omega
            exact Nat.le_refl _
  | succ j ih =>
    by_cases e : i = j + 1
    · subst e; exact Nat.le_refl _
    · have := ih (by omega); show posH xs i ≤ posH xs j + (xs.getD j 0 % 7 + 1); omega
/-- What stands when so many holes are done. -/
structure HoleSt (k : Nat) (P at' i : Nat) (U : Nat → Bool) (o : Option Nat) : Prop where
  above : ∀ p, at' ≤ p → U p = false
  least : (o = none ∧ ∀ p, p < at' → ∃ j, j < k ∧ U (p + j) = true) ∨ ∃ q, o = some q ∧ q + k ≤ at' ∧ (∀ j, j < k → U (q + j) = false) ∧ ∀ p, p < q → ∃ j, j < k ∧ U (p + j) = true
  count : cnt U P = i
theorem cnt_false (P : Nat) : cnt (fun _ => false) P = 0 := by
  induction P with
  | zero => rfl
  | succ P ih => unfold cnt; rw [ih]; rfl
theorem HoleSt.start (k P : Nat) : HoleSt k P 0 0 (fun _ => false) none := ⟨fun _ _ => rfl, .inl ⟨rfl, fun p hp => by omega⟩, cnt_false P⟩
theorem HoleSt.step {k P a i : Nat} {U : Nat → Bool} {o : Option Nat} (h : HoleSt k P a i U o) (x : Nat) (hP : a + x < P) :
    HoleSt k P (a + (x + 1)) (i + 1) (fun p => U p || inR (a + x, a + x + 1) p) (if o = none ∧ k ≤ x then some a else o) := by
  have hmono : ∀ p, U p = true → (U p || inR (a + x, a + x + 1) p) = true := fun p hp => by rw [hp]; rfl
  refine ⟨fun p hp => ?_, ?_, ?_⟩
  · show (U p || inR (a + x, a + x + 1) p) = false
    rw [h.above p (by omega), inR_false (by show p < a + x ∨ a + x + 1 ≤ p; omega)]; rfl
  · rcases h.least with ⟨rfl, hn⟩ | ⟨q, rfl, h1, h2, h3⟩
    · by_cases hx : k ≤ x
      · rw [if_pos ⟨rfl, hx⟩]
        refine .inr ⟨a, rfl, by omega, fun j hj => ?_, fun p hp => ?_⟩
        · show (U (a + j) || inR (a + x, a + x + 1) (a + j)) = false
          rw [h.above _ (by omega), inR_false (by show a + j < a + x ∨ a + x + 1 ≤ a + j; omega)]; rfl
        · obtain ⟨j, hj, hu⟩ := hn p hp
          exact ⟨j, hj, hmono _ hu⟩
      · rw [if_neg (fun hh => hx hh.2)]
        refine .inl ⟨rfl, fun p hp => ?_⟩
        by_cases hpa : p < a
        · obtain ⟨j, hj, hu⟩ := hn p hpa
          exact ⟨j, hj, hmono _ hu⟩
        · refine ⟨a + x - p, by omega, ?_⟩
          show (U (p + (a + x - p)) || inR (a + x, a + x + 1) (p + (a + x - p))) = true
          rw [inR_true (by show a + x ≤ p + (a + x - p); omega) (by show p + (a + x - p) < a + x + 1; omega)]; simp
    · rw [if_neg (fun hh => by cases hh.1)]
      refine .inr ⟨q, rfl, by omega, fun j hj => ?_, fun p hp => ?_⟩
      · show (U (q + j) || inR (a + x, a + x + 1) (q + j)) = false
        rw [h2 j hj, inR_false (by show q + j < a + x ∨ a + x + 1 ≤ q + j; omega)]; rfl
      · obtain ⟨j, hj, hu⟩ := h3 p hp
        exact ⟨j, hj, hmono _ hu⟩
  · rw [cnt_or, h.count, cnt_in _ (by show a + x ≤ a + x + 1; omega)]
    · show i + (min P (a + x + 1) - min P (a + x)) = i + 1; omega
    · intro p _ hp
      apply inR_false
      show p < a + x ∨ a + x + 1 ≤ p
      apply Classical.byContradiction
      intro hc
      rw [h.above p (by omega)] at hp
      cases hp
theorem HoleSt.end {k P i : Nat} {U : Nat → Bool} {o : Option Nat} (h : HoleSt k P P i U o) (hk : 0 < k) : Least U P k o := by
  rcases h.least with ⟨rfl, hn⟩ | ⟨q, rfl, h1, h2, h3⟩
  · intro p hf
    obtain ⟨j, hj, hu⟩ := hn p (by have := hf.1; omega)
    rw [hf.2 j hj] at hu
    cases hu
  · refine ⟨⟨h1, h2⟩, fun p hp hf => ?_⟩
    obtain ⟨j, hj, hu⟩ := h3 p hp
    rw [hf.2 j hj] at hu
    cases hu
theorem optI_neg {o : Option Nat} : (optI o < 0) ↔ o = none := by
  cases o with
  | none => simp [optI]
  | some q => simp [optI]

set_option maxHeartbeats 3200000 in
set_option maxRecDepth 100000 in
theorem holes_law (w : World) (v : Value) (xs : List Nat) (c' : Int) (hv : Bs w v xs) (hl : xs.length ≤ maxLen) (hc : 0 ≤ c' ∧ c' < 256) : Calls Try.prog 7 #[v, .int .u8 c'] w (None w (.bool true)) := by
  obtain ⟨c, rfl⟩ := Int.eq_ofNat_of_zero_le hc.1
  obtain ⟨av, cp, rfl, hcells⟩ := hv
  have HV := Lib.hid (show Bs w (.slice av xs.length cp) xs from ⟨av, cp, rfl, hcells⟩)
  clear hcells
  obtain ⟨n, hn⟩ : ∃ n, xs.length = n := ⟨_, rfl⟩
  rw [hn] at HV hl ⊢
  have HN := Lib.hid hn
  clear hn
  have hl63 : n ≤ 9223372036854775807 := by simp only [maxLen] at hl; omega
  by_cases hbig : 20 < n
  · have hbI : (20 : Int) < (n : Int) := by omega
    go_enter Try.func7, Try.ntmps7
    go_wp2_with fail
    refine (awake_any w).mono ?_
    rintro e w1 ⟨rfl, T1⟩
    go_wp2_with fail
    refine (awake_any w1).mono ?_
    rintro e w2 ⟨rfl, T2⟩
    go_wp2_with fail
    go_ret
    exact ⟨rfl, T1.trans T2 (fun _ _ => id)⟩
  · have hbI : ¬ ((20 : Int) < (n : Int)) := by omega
    obtain ⟨d, hd⟩ : ∃ d, c % 7 = d := ⟨_, rfl⟩
    have hd7 : d < 7 := by rw [← hd]; exact Nat.mod_lt _ (by decide)
    obtain ⟨k, hk⟩ : ∃ k, 1 + d = k := ⟨_, rfl⟩
    have d1 : (c : Int) % 7 = (d : Int) := by omega
    have d2 : Int.tmod (c : Int) 7 = (d : Int) := by rw [Int.tmod_eq_emod_of_nonneg (by omega)]; exact d1
    have k1 : 1 + (d : Int) = (k : Int) := by omega
    have hk0 : 0 < k ∧ k ≤ 7 := by omega
    have HD := Lib.hid hd
    have HK := Lib.hid hk
    clear hd hk
    go_enter Try.func7, Try.ntmps7
    go_wp2_with fail
    refine (awake_any w).mono ?_
    rintro e w1 ⟨rfl, T1⟩
    have HV1 := Lib.hid (HV.out.none T1)
    go_wp2_with fail
    go_loopw [5, 6] (fun sv iv wr => ∃ i : Nat, i ≤ n ∧ iv = .int .i64 (i : Int) ∧ sv = .int .i64 (posH xs i : Int) ∧ w1 = wr) (fun _ iv _ => (n - intOf iv).toNat)
    case atStart => exact ⟨0, Nat.zero_le _, rfl, rfl, rfl⟩
    case round =>
      obtain ⟨i, hi, rfl, rfl, rfl⟩ := hrel
      by_cases hlt : i < n
      · have hpl := posH_le xs i
        have hps : posH xs (i + 1) = posH xs i + (xs.getD i 0 % 7 + 1) := rfl
        obtain ⟨a', c2, he, hcc⟩ := HV1.out
        rw [HN.out] at he
        cases he
        obtain ⟨b, o, rfl, e1, e2⟩ := hcc i (by rw [HN.out]; exact hlt)
        obtain ⟨x, hx⟩ : ∃ x, xs.getD i 0 = x := ⟨_, rfl⟩
        obtain ⟨y, hy⟩ : ∃ y, x % 7 = y := ⟨_, rfl⟩
        obtain ⟨s, hs⟩ : ∃ s, posH xs i = s := ⟨_, rfl⟩
        rw [hx] at e1 e2 hps
        rw [hy, hs] at hps
        rw [hs] at hpl ⊢
        have hy7 : y < 7 := by omega
        have y1 : (x : Int) % 7 = (y : Int) := by omega
        have y2 : Int.tmod (x : Int) 7 = (y : Int) := by rw [Int.tmod_eq_emod_of_nonneg (by omega)]; exact y1
        have HPS := Lib.hid hps
        clear hps hx hy hs hcc
        have hiI : (i : Int) < (n : Int) := by omega
        go_wp2_with fail
        go_roundw
        case measure => simp [intOf]; omega
        case rel => exact ⟨i + 1, by omega, by simp, by rw [HPS.out]; simp, by first | rfl | trivial⟩
      · obtain rfl : i = n := by omega
        have hiI : ¬ ((i : Int) < (i : Int)) := by omega
        have hpl := posH_le xs i
        obtain ⟨P, hP⟩ : ∃ P, posH xs i = P := ⟨_, rfl⟩
        rw [hP] at hpl ⊢
        have HP := Lib.hid hP
        clear hP
        go_wp2_with fail
        refine (new_h w1 (P : Int) (by omega)).mono ?_
        rintro e w2 ⟨D, F, rfl, h2, hF, T2⟩
        have hm : Mine w1 w2 D P (fun _ => false) := ⟨F, by rw [Int.toNat_natCast] at h2; exact h2, hF, T2⟩
        have HM0 := Lib.hid hm
        clear hm h2
        go_wp2_with fail
        go_loopw [8, 9, 11] (fun atv fv iv wr => ∃ (j : Nat) (U : Nat → Bool) (o : Option Nat), j ≤ i ∧ iv = .int .i64 (j : Int) ∧ atv = .int .i64 (posH xs j : Int) ∧ fv = .int .i64 (optI o) ∧ HoleSt k P (posH xs j) j U o ∧ (∀ q, o = some q → q ≤ P) ∧ Mine w1 wr D P U) (fun _ _ iv _ => (i - intOf iv).toNat)
        case atStart => exact ⟨0, fun _ => false, none, Nat.zero_le _, rfl, rfl, rfl, HoleSt.start k P, by simp, HM0.out⟩
        case round =>
          obtain ⟨j, U, o, hj, rfl, rfl, rfl, hst, hqP, hmi⟩ := hrel
          have HST := Lib.hid hst
          have HQP := Lib.hid hqP
          have HMI := Lib.hid hmi
          clear hst hqP hmi
          by_cases hlt2 : j < i
          · have hpl2 := posH_le xs j
            have hps : posH xs (j + 1) = posH xs j + (xs.getD j 0 % 7 + 1) := rfl
            have hpm := posH_mono xs (show j + 1 ≤ i by omega)
            rw [HP.out] at hpm
            obtain ⟨F, hm, hF, T⟩ := HMI.out
            have HM := Lib.hid hm
            obtain ⟨a', c2, he, hcc⟩ := HV1.out.none T
            rw [HN.out] at he
            cases he
            obtain ⟨b, o', rfl, e1, e2⟩ := hcc j (by rw [HN.out]; exact hlt2)
            obtain ⟨x, hx⟩ : ∃ x, xs.getD j 0 = x := ⟨_, rfl⟩
            obtain ⟨y, hy⟩ : ∃ y, x % 7 = y := ⟨_, rfl⟩
            obtain ⟨s, hs⟩ : ∃ s, posH xs j = s := ⟨_, rfl⟩
            rw [hx] at e1 e2 hps
            rw [hy, hs] at hps
            rw [hs] at hpl2 HST ⊢
            rw [hps] at hpm
            have hy7 : y < 7 := by omega
            have y1 : (x : Int) % 7 = (y : Int) := by omega
            have y2 : Int.tmod (x : Int) 7 = (y : Int) := by rw [Int.tmod_eq_emod_of_nonneg (by omega)]; exact y1
            have HPS := Lib.hid hps
            have HST2 := Lib.hid (HST.out.step y (by omega))
            have HTK := Lib.hid (take_yes wr F D P U hm (by omega) (s + y) 1 (by omega) (fun p p1 p2 => HST.out.above p (by omega)))
            have HFT := Lib.hid (And.intro hF T)
            clear hps hx hy hs hcc hm hF T
            have hiI : (j : Int) < (i : Int) := by omega
            obtain ⟨f, hf⟩ : ∃ f, optI o = f := ⟨_, rfl⟩
            rw [hf]
            by_cases hcase : o = none ∧ k ≤ y
            · rw [if_pos hcase] at HST2
              have hf0 : f < 0 := by rw [← hf]; exact optI_neg.2 hcase.1
              have hyk : (k : Int) ≤ (y : Int) := by omega
              clear hcase hf
              go_wp2_with fail
              refine (HTK.out).mono ?_
              rintro e w4 ⟨rfl, F4, g4, h4⟩
              have HMN := Lib.hid (Mine.grow HFT.out.1 HFT.out.2 g4 h4)
              clear h4 g4
              go_wp2_with fail
              go_roundw
              case measure => simp [intOf]; omega
              case rel => exact ⟨j + 1, _, some s, by omega, by simp, by rw [HPS.out]; simp, rfl, by rw [HPS.out]; exact HST2.out, fun q hq => by cases hq; omega, HMN.out⟩
            · rw [if_neg hcase] at HST2
              have hdec : ¬ (f < 0) ∨ ¬ ((k : Int) ≤ (y : Int)) := by
                by_cases h1 : o = none
                · right; intro h2; exact hcase ⟨h1, by omega⟩
                · left; rw [← hf]; intro h2; exact h1 (optI_neg.1 h2)
              have HFO := Lib.hid hf
              have hfb : -1 ≤ f ∧ f ≤ 1000 := by
                rw [← hf]
                cases o with
                | none => simp [optI]
                | some q => have := HQP.out q rfl; simp [optI]; omega
              clear hcase hf
              by_cases hf0 : f < 0
              · have hyk : ¬ ((k : Int) ≤ (y : Int)) := by rcases hdec with h | h; exact absurd hf0 h; exact h
                clear hdec
                go_wp2_with fail
                refine (HTK.out).mono ?_
                rintro e w4 ⟨rfl, F4, g4, h4⟩
                have HMN := Lib.hid (Mine.grow HFT.out.1 HFT.out.2 g4 h4)
                clear h4 g4
                go_wp2_with fail
                go_roundw
                case measure => simp [intOf]; omega
                case rel => exact ⟨j + 1, _, o, by omega, by simp, by rw [HPS.out]; simp, by rw [HFO.out], by rw [HPS.out]; exact HST2.out, HQP.out, HMN.out⟩
              · clear hdec
                go_wp2_with fail
                refine (HTK.out).mono ?_
                rintro e w4 ⟨rfl, F4, g4, h4⟩
                have HMN := Lib.hid (Mine.grow HFT.out.1 HFT.out.2 g4 h4)
                clear h4 g4
                go_wp2_with fail
                go_roundw
                case measure => simp [intOf]; omega
                case rel => exact ⟨j + 1, _, o, by omega, by simp, by rw [HPS.out]; simp, by rw [HFO.out], by rw [HPS.out]; exact HST2.out, HQP.out, HMN.out⟩
          · obtain rfl : j = i := by omega
            rw [HP.out] at HST ⊢
            obtain ⟨F, hm, hF, T⟩ := HMI.out
            have HFD := Lib.hid (find_h wr F D P U hm (by omega) k hk0.1 (by omega) o (HST.out.end hk0.1))
            have HLF := Lib.hid (show ∀ w3, Turn (fun _ => False) wr w3 → Calls Try.prog 14 #[.pointer (some ⟨D, 0, none⟩)] w3 (None w3 (.int .i64 ((P : Int) - (j : Int)))) from fun w3 T3 => by
              have := left_h w3 F D P _ (hm.none T3) (by omega)
              have e1 := cnt_not U P
              rw [HST.out.count] at e1
              rw [show ((cnt (fun p => !U p) P : Nat) : Int) = (P : Int) - (j : Int) by omega] at this
              exact this)
            have HTT := Lib.hid T
            obtain ⟨f, hf⟩ : ∃ f, optI o = f := ⟨_, rfl⟩
            rw [hf] at HFD ⊢
            have hjI : ¬ ((j : Int) < (j : Int)) := by omega
            clear hm hF T hf
            go_wp2_with fail
            refine (HFD.out).mono ?_
            rintro e w4 ⟨rfl, T4⟩
            go_wp2_with fail
            refine (HLF.out w4 T4).mono ?_
            rintro e w5 ⟨rfl, T5⟩
            go_wp2_with fail
            go_ret
            exact ⟨rfl, ((T1.trans HTT.out (fun _ _ => id)).trans T4 (fun _ _ => id)).trans T5 (fun _ _ => id)⟩
end Go.Proofs.Ytmhdcpkncaghpaa
