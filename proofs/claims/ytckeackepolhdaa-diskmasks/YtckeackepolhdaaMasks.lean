/- Own: the walk of DiskMasks. -/
import Derived.Test.YtckeackepolhdaaArms
namespace Go.Proofs.Ytckeackepolhdaa
open Go.RowKit
set_option linter.unusedVariables false
set_option linter.unusedSimpArgs false

def wetM (k : Nat) : List (Nat × List Int) := (List.range k).map fun i => (i, pad64 [((i + 1 : Nat) : Int)])
theorem wetM_succ (k : Nat) : wetM (k + 1) = wetM k ++ [(k, pad64 [((k + 1 : Nat) : Int)])] := by simp [wetM, List.range_succ]
theorem wetM_get (k j : Nat) (h : j < k) : (wetM k).getD j (0, []) = (j, pad64 [((j + 1 : Nat) : Int)]) := by simp [wetM, List.getD, h]
theorem keep_masks (k : Nat) (hk : k ≤ 60) (f : Nat → Bool) : ∀ j, j ≤ k → ∀ i, i < 60 → (keepK (List.replicate 60 noughts) (wetM k) f j).getD i [] = if i < j ∧ f i = true then pad64 [((i + 1 : Nat) : Int)] else noughts := by
  intro j
  induction j with
  | zero =>
    intro _ i hi
    rw [if_neg (by omega)]
    show (List.replicate 60 noughts).getD i [] = noughts
    rw [List.getD_eq_getElem?_getD, List.getElem?_replicate, if_pos hi]; rfl
  | succ j ih =>
    intro hj i hi
    have h1 := ih (by omega) i hi
    have hl := keepK_len (List.replicate 60 noughts) (wetM k) f j
    rw [List.length_replicate] at hl
    rw [keepK, wetM_get k j (by omega)]
    cases hf : f j with
    | false =>
      rw [if_neg (by decide), h1]
      by_cases e : i = j
      · subst e; rw [hf]; simp
      · have : (i < j + 1 ∧ f i = true) ↔ (i < j ∧ f i = true) := by constructor <;> (intro h; exact ⟨by omega, h.2⟩)
        simp only [this]
    | true =>
      rw [if_pos rfl]
      by_cases e : j = i
      · subst e
        rw [if_pos ⟨by omega, hf⟩]
        rw [List.getD_eq_getElem?_getD, List.getElem?_set_self (by rw [hl]; exact hi)]; rfl
      · rw [List.getD_eq_getElem?_getD, List.getElem?_set_ne e, ← List.getD_eq_getElem?_getD, h1]
        have : (i < j + 1 ∧ f i = true) ↔ (i < j ∧ f i = true) := by constructor <;> (intro h; exact ⟨by omega, h.2⟩)
        simp only [this]

set_option maxHeartbeats 8000000 in
set_option maxRecDepth 100000 in
theorem masks_walk (n : Int) (v : Value) (ms : List Int) (w : World) (hn : 0 ≤ n ∧ n < 256) (hv : Src w v ms) (hb : BytesOk ms) (ho : Old w v ms) (h20 : ms.length ≤ 20) : Calls Try.prog 7 #[.int .u8 n, v] w (AwakePost w) := by
  have HV := Lib.hid hv
  have HB := Lib.hid hb
  have HO := Lib.hid ho
  obtain ⟨a, c, rfl, hc⟩ := src_any hv
  have HC := Lib.hid hc
  clear hv hb ho hc
  have hd20 : decide ((20 : Int) < (ms.length : Int)) = false := by simp; omega
  obtain ⟨k, hk⟩ : ∃ k : Nat, n % 60 = (k : Int) := ⟨(n % 60).toNat, by omega⟩
  have hk60 : k < 60 := by omega
  have hk2 : n.tmod 60 = (k : Int) := by rw [Int.tmod_eq_emod_of_nonneg hn.1]; exact hk
  obtain ⟨L, hL⟩ : ∃ L, ms.length = L := ⟨_, rfl⟩
  have HL := Lib.hid hL
  rw [hL] at hd20 h20
  simp only [hL]
  clear hL
  go_enter Try.func7, Try.ntmps7
  go_wp2_with fail
  refine (awake_any w).mono ?_
  rintro e w1 ⟨rfl, t1⟩
  go_wp2_with fail
  refine (new_has 60 w w1 60 rfl t1).mono ?_
  rintro e w2 ⟨D, rfl, h2⟩
  have H2 := Lib.hid h2
  clear h2
  go_wp2_with fail
  go_loopw [7] (fun iv wr => ∃ (i : Nat) (d : DiskM), i ≤ k ∧ iv = .int .i64 (i : Int) ∧ Has w wr D d ∧ St d 60 i i false 0 false ∧ d.wet = wetM i ∧ d.safe = List.replicate 60 noughts) (fun iv _ => (k - intOf iv).toNat)
  case atStart => exact ⟨0, _, Nat.zero_le _, rfl, H2.out, St.new 60, rfl, rfl⟩
  case round =>
    clear H2
    obtain ⟨i, d, hi, rfl, hd, hst, hwt, hsf⟩ := hrel
    have HD := Lib.hid hd
    have HS := Lib.hid hst
    have HW := Lib.hid hwt
    have HSF := Lib.hid hsf
    clear hd hst hwt hsf
    have hfit : Fits d := HS.out.fits (by omega) (by omega) (by omega)
    by_cases hlt : i < k
    · have hdk : decide ((i : Int) < (k : Int)) = true := by simp; omega
      have hweq := HS.out.write_eq i [((i + 1 : Nat) : Int)] (by omega) (by simp)
      obtain ⟨hs2, he2⟩ := (HS.out.put (i, pad64 [((i + 1 : Nat) : Int)])).act_free
      have hbt : ((i : Int) + 1) % 256 = ((i + 1 : Nat) : Int) := by omega
      have h256 : (0 : Int) ≤ ((i + 1 : Nat) : Int) ∧ ((i + 1 : Nat) : Int) < 256 := by omega
      go_wp2_with fail
      refine (write_new w wr D d (i : Int) ((i + 1 : Nat) : Int) HD.out hfit h256).mono ?_
      rintro e w4 ⟨rfl, h4⟩
      rw [hweq] at h4
      rw [hweq, he2]
      have H4 := Lib.hid h4
      have S4 := Lib.hid hs2
      have hw4 : ({ d with wet := d.wet ++ [(i, pad64 [((i + 1 : Nat) : Int)])] } : DiskM).act.wet = wetM (i + 1) := by
        rw [(DiskM.act_same _).2.1, wetM_succ, ← HW.out]
      have hs4 : ({ d with wet := d.wet ++ [(i, pad64 [((i + 1 : Nat) : Int)])] } : DiskM).act.safe = List.replicate 60 noughts := by
        rw [(DiskM.act_same _).1]; exact HSF.out
      have HW4 := Lib.hid hw4
      have HS4 := Lib.hid hs4
      clear h4 hs2 hweq he2 hw4 hs4
      go_wp2_with fail
      go_roundw
      case rel => exact ⟨i + 1, _, by omega, by go_num, H4.out, S4.out, HW4.out, HS4.out⟩
      case measure => simp [intOf]; omega
    · obtain rfl : i = k := by omega
      have hdk : decide ((i : Int) < (i : Int)) = false := by simp
      go_wp2_with fail
      have HV2 := HV.out.turn HD.out.turned (fun _ _ => id)
      have HO2 := HO.out
      rw [HL.out] at HV2 HO2
      refine (crash_has w wr D d _ ms HD.out hfit HV2 HO2 HB.out (by rw [HL.out]; omega)).mono ?_
      rintro e w5 ⟨rfl, h5⟩
      have H5 := Lib.hid h5
      have S5 := Lib.hid (HS.out.crash ms)
      have hlast : ∀ j, j < i → (d.crashed ms).last j = if maskB ms j = true then pad64 [((j + 1 : Nat) : Int)] else noughts := fun j hj => by
        have h6 := keep_masks i (by omega) (maskB ms) i (Nat.le_refl _) j (by omega)
        have h7 : (d.crashed ms).last j = (keepK d.safe d.wet (maskB ms) d.wet.length).getD j [] := rfl
        rw [h7, HW.out, HSF.out, show (wetM i).length = i by simp [wetM], h6]
        simp [hj]
      have HLA := Lib.hid hlast
      clear h5 hlast HV2 HO2
      generalize d.crashed ms = d5 at H5 S5 HLA
      go_wp2_with fail
      go_loopw [8] (fun iv wr => ∃ (j : Nat), j ≤ i ∧ iv = .int .i64 (j : Int) ∧ Has w wr D d5) (fun iv _ => (i - intOf iv).toNat)
      case atStart => exact ⟨0, Nat.zero_le _, rfl, H5.out⟩
      case round =>
        obtain ⟨j, hj, rfl, hd5⟩ := hrel
        have HD5 := Lib.hid hd5
        clear hd5
        by_cases hji : j < i
        · have hdj : decide ((j : Int) < (i : Int)) = true := by simp; omega
          go_wp2_with fail
          refine (read_has w _ D d5 j HD5.out (S5.out.fits (by omega) (by omega) (by omega)) (by rw [S5.out.n]; omega) S5.out.off).mono ?_
          rintro e w6 ⟨B6, rfl, hB6, hr6, hth6, t6, h6⟩
          have hcB := range_first hr6 (h6.ok.last j (by rw [S5.out.n]; omega)).1
          rw [HLA.out j hji] at hcB
          have H6 := Lib.hid h6
          clear hr6 hth6 t6 h6
          have hbt : ((j : Int) + 1) % 256 = ((j + 1 : Nat) : Int) := by omega
          by_cases h0 : L = 0
          · have hmb : maskB ms j = false := by unfold maskB; rw [if_pos (by rw [HL.out]; exact h0)]
            have h0L : decide ((0 : Int) < (L : Int)) = false := by simp; omega
            have h0N : decide (0 < L) = false := by simp; omega
            clear h0
            rw [hmb, if_neg (by decide)] at hcB
            have hcB2 : w6.cell? ⟨B6, 0, none⟩ = some (.int .u8 0) := hcB
            clear hcB hmb
            go_wp2_with fail
            go_roundw
            case rel => exact ⟨j + 1, by omega, by go_num, H6.out⟩
            case measure => simp [intOf]; omega
          · obtain ⟨hcap, g, o, rfl, hcell⟩ := HC.out (by rw [HL.out]; omega)
            have hq : j / 8 % L < L := Nat.mod_lt _ (by omega)
            have hcl0 := hcell (j / 8 % L) (by rw [HL.out]; exact hq)
            have hcl := (H6.out.turned.cell (p := ⟨g, o + j / 8 % L, none⟩) (World.block_lt_of_cell? w _ hcl0) id).trans hcl0
            have hm : ms.getD (j / 8 % L) 0 ∈ ms := by have := HL.out; simp [List.getD, show j / 8 % L < ms.length by omega]
            obtain ⟨b, hbb⟩ := Int.eq_ofNat_of_zero_le (HB.out _ hm).1
            have hb2 := (HB.out _ hm).2
            have hmb : maskB ms j = decide (b / 2 ^ (j % 8) % 2 = 1) := by
              unfold maskB; rw [if_neg (by rw [HL.out]; exact h0), HL.out, hbb]; rfl
            rw [hbb] at hcl hb2
            rw [HL.out] at hcap
            have hblt : b < 256 := by omega
            have hcast : (b : Int) / 2 ^ (j % 8) % 2 = ((b / 2 ^ (j % 8) % 2 : Nat) : Int) := by rw [Int.natCast_emod, Int.natCast_ediv, Int.natCast_pow]; rfl
            have htm : ((b : Int) / 2 ^ (j % 8)).tmod 2 = (b : Int) / 2 ^ (j % 8) % 2 := Int.tmod_eq_emod_of_nonneg (Int.ediv_nonneg (by omega) (Int.pow_nonneg (by omega)))
            have hrem : ((j : Int) / 8).tmod (L : Int) = ((j / 8 % L : Nat) : Int) := by
              rw [Int.tmod_eq_emod_of_nonneg (by omega), Int.natCast_emod, Int.natCast_ediv]; rfl
            have hrem2 : (((j / 8 : Nat) : Int)).tmod (L : Int) = ((j / 8 % L : Nat) : Int) := by
              rw [Int.tmod_eq_emod_of_nonneg (by omega), Int.natCast_emod]
            have h0L : decide ((0 : Int) < (L : Int)) = true := by simp; omega
            have hLne2 : ¬ (L : Int) = 0 := by omega
            have hLpos : 0 < L := by omega
            generalize hqq : j / 8 % L = q at hq hcl hrem hrem2
            clear hcell hm hbb hcl0
            by_cases hbit : b / 2 ^ (j % 8) % 2 = 1
            · have e1 : ((b : Int) / 2 ^ (j % 8) % 2 == 1) = true := by rw [hcast, hbit]; rfl
              have e2 : (((b : Int) / 2 ^ (j % 8)).tmod 2 == 1) = true := by rw [htm]; exact e1
              rw [hmb, if_pos (by simp [hbit])] at hcB
              have hcB2 : w6.cell? ⟨B6, 0, none⟩ = some (.int .u8 ((j + 1 : Nat) : Int)) := hcB
              have hne : (((j + 1 : Nat) : Int) != ((j + 1 : Nat) : Int)) = false := by simp
              clear hcB hmb hcast htm hbit
              go_wp2_with fail
              go_roundw
              case rel => exact ⟨j + 1, by omega, by go_num, H6.out⟩
              case measure => simp [intOf]; omega
            · have e1 : ((b : Int) / 2 ^ (j % 8) % 2 == 1) = false := by rw [hcast, beq_eq_false_iff_ne]; omega
              have e2 : (((b : Int) / 2 ^ (j % 8)).tmod 2 == 1) = false := by rw [htm]; exact e1
              rw [hmb, if_neg (by simp [hbit])] at hcB
              have hcB2 : w6.cell? ⟨B6, 0, none⟩ = some (.int .u8 0) := hcB
              clear hcB hmb hcast htm hbit
              go_wp2_with fail
              go_roundw
              case rel => exact ⟨j + 1, by omega, by go_num, H6.out⟩
              case measure => simp [intOf]; omega
        · obtain rfl : j = i := by omega
          have hdj : decide ((j : Int) < (j : Int)) = false := by simp
          go_wp2_with fail
          refine (wet_has w _ D d5 HD5.out).mono ?_
          rintro e w7 ⟨rfl, rfl⟩
          rw [S5.out.wet]
          go_wp2_with fail
          go_ret
          exact ⟨rfl, HD5.out.turned⟩

set_option maxHeartbeats 1600000 in
theorem diskMasks_walk (n : Int) (v : Value) (ms : List Int) (w : World) (hn : 0 ≤ n ∧ n < 256) (hv : Src w v ms) (hb : BytesOk ms) (hm : ms.length ≤ maxLen) (ho : ∀ k, v.ownBlock = some k → 0 < ms.length → k < w.heap.size) : Calls Try.prog 7 #[.int .u8 n, v] w (AwakePost w) := by
  by_cases h20 : ms.length ≤ 20
  · exact masks_walk n v ms w hn hv hb (fun h k hk => ho k hk h) h20
  · obtain ⟨a, c, rfl, _⟩ := src_any hv
    have hd : decide ((20 : Int) < (ms.length : Int)) = true := by simp; omega
    clear hv hb ho
    go_enter Try.func7, Try.ntmps7
    go_wp2_with fail
    refine (awake_any w).mono ?_
    rintro e w1 ⟨rfl, t1⟩
    go_wp2_with fail
    refine (awake_any w1).mono ?_
    rintro e w2 ⟨rfl, t2⟩
    go_wp2_with fail
    go_ret
    exact ⟨rfl, t1.trans t2 (fun _ _ => id)⟩
end Go.Proofs.Ytckeackepolhdaa
