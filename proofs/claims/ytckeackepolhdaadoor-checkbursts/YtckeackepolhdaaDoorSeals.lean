/- Own contracts: bytes that are equal; a sector that is opened; the walk of CheckSeals. -/
import Derived.Test.YtckeackepolhdaaDoorSeal
namespace Go.Proofs.YtckeackepolhdaaDoor
open Go.RowKit
set_option linter.unusedVariables false
set_option linter.unusedSimpArgs false

def EqualPost (w : World) (xs ys : List Int) (e : Ending) (w' : World) : Prop := e = .returned (.bool (decide (xs = ys))) ∧ Turn (fun _ => False) w w'

theorem take_eq_step {xs ys : List Int} {k : Nat} (h : xs.take k = ys.take k) (h1 : k < xs.length) (h2 : k < ys.length) (e : xs.getD k 0 = ys.getD k 0) : xs.take (k + 1) = ys.take (k + 1) := by
  rw [take_succ_getD xs k h1, take_succ_getD ys k h2, h, e]

set_option maxHeartbeats 1600000 in
set_option maxRecDepth 100000 in
theorem equal_any (v1 v2 : Value) (xs ys : List Int) (w : World) (hv1 : Src w v1 xs) (hv2 : Src w v2 ys) (hl : xs.length ≤ 70000000000000) :
    Calls Tryd.prog 18 #[v1, v2] w (EqualPost w xs ys) := by
  obtain ⟨a1, c1, rfl, q1⟩ := src_any hv1
  obtain ⟨a2, c2, rfl, q2⟩ := src_any hv2
  have Q1 := Lib.hid q1
  have Q2 := Lib.hid q2
  clear hv1 hv2 q1 q2
  obtain ⟨n, hn⟩ : ∃ n, xs.length = n := ⟨_, rfl⟩
  obtain ⟨m, hm⟩ : ∃ m, ys.length = m := ⟨_, rfl⟩
  rw [hn] at hl
  simp only [hn, hm]
  have HN := Lib.hid hn
  have HM := Lib.hid hm
  clear hn hm
  by_cases hnm : n = m
  · subst hnm
    have hne : ((n : Int) != (n : Int)) = false := by simp
    go_enter Tryd.func18, Tryd.ntmps18
    go_wp2_with fail
    go_loopw [13] (fun iv wr => ∃ k : Nat, k ≤ n ∧ iv = .int .i64 (k : Int) ∧ xs.take k = ys.take k ∧ Turn (fun _ => False) w wr) (fun iv _ => (n - intOf iv).toNat)
    case atStart => exact ⟨0, Nat.zero_le _, rfl, by simp, Turn.refl _ _⟩
    case round =>
      obtain ⟨k, hk, rfl, htk, hT⟩ := hrel
      have HTK := Lib.hid htk
      clear htk
      by_cases hlt : k < n
      · obtain ⟨p1, g1, o1, rfl, e1⟩ := Q1.out (by rw [HN.out]; omega)
        obtain ⟨p2, g2, o2, rfl, e2⟩ := Q2.out (by rw [HM.out]; omega)
        have f1 := e1 k (by rw [HN.out]; omega)
        have f2 := e2 k (by rw [HM.out]; omega)
        rw [HN.out] at p1
        rw [HM.out] at p2
        have d1 := (hT.cell (p := ⟨g1, o1 + k, none⟩) (World.block_lt_of_cell? w _ f1) id).trans f1
        have d2 := (hT.cell (p := ⟨g2, o2 + k, none⟩) (World.block_lt_of_cell? w _ f2) id).trans f2
        have hstep := take_eq_step HTK.out (show k < xs.length by rw [HN.out]; exact hlt) (show k < ys.length by rw [HM.out]; exact hlt)
        have hdiff : xs = ys → xs.getD k 0 = ys.getD k 0 := fun h => by rw [h]
        have hdk : decide ((k : Int) < (n : Int)) = true := by simp; omega
        have HST := Lib.hid hstep
        have HDF := Lib.hid hdiff
        clear e1 e2 f1 f2 hstep hdiff
        generalize xs.getD k 0 = x at d1 HST HDF
        generalize ys.getD k 0 = y at d2 HST HDF
        by_cases hxy : x = y
        · have hb : (x != y) = false := by simp [hxy]
          have hs := Lib.hid (HST.out hxy)
          clear hxy
          go_wp2_with fail
          go_region
          go_wp2_with fail
          go_roundw
          case rel => exact ⟨k + 1, by omega, by go_num, hs.out, hT.drew⟩
          case measure => simp [intOf]; omega
        · have hb : (x != y) = true := by simp [hxy]
          have hs := Lib.hid (fun h => hxy (HDF.out h))
          clear hxy
          go_wp2_with fail
          go_region
          go_wp2_with fail
          go_ret
          exact ⟨by rw [decide_eq_false hs.out]; rfl, hT.drew⟩
      · obtain rfl : k = n := by omega
        have hdk : decide ((k : Int) < (k : Int)) = false := by simp
        have he : xs = ys := by
          have := HTK.out
          rwa [List.take_of_length_le (by rw [HN.out]; omega), List.take_of_length_le (by rw [HM.out]; omega)] at this
        have HE := Lib.hid he
        clear he
        go_wp2_with fail
        go_ret
        exact ⟨by rw [decide_eq_true HE.out]; rfl, hT⟩
  · have hne : ((n : Int) != (m : Int)) = true := by simp; omega
    have hs : ¬ xs = ys := fun h => hnm (by rw [← HN.out, ← HM.out, h])
    have HS := Lib.hid hs
    clear hs hnm
    go_enter Tryd.func18, Tryd.ntmps18
    go_wp2_with fail
    go_ret
    exact ⟨by rw [decide_eq_false HS.out]; rfl, Turn.refl _ _⟩

def OpenPost (w : World) (xs : List Int) (e : Ending) (w' : World) : Prop :=
  Turn (fun _ => False) w w' ∧ ((xs = sealB xs ∧ ∃ v', e = .returned (.tuple #[v', .bool true]) ∧ Reads w' v' (xs.take 60)) ∨ (xs ≠ sealB xs ∧ e = .returned (.tuple #[.slice none 0 0, .bool false])))

set_option maxHeartbeats 1600000 in
set_option maxRecDepth 100000 in
theorem open_any (v : Value) (xs : List Int) (w : World) (hv : Src w v xs) (hx : BytesOk xs) (ht : Tab w) :
    Calls Tryd.prog 13 #[v] w (OpenPost w xs) := by
  have HV := Lib.hid hv
  obtain ⟨a, c, rfl, q⟩ := src_any hv
  have Q := Lib.hid q
  have HX := Lib.hid hx
  have HT := Lib.hid ht
  clear hv q hx ht
  by_cases h64 : xs.length = 64
  · have hne : ((64 : Int) != (64 : Int)) = false := by simp
    rw [h64]
    obtain ⟨hcap, g, o, rfl, hcell⟩ := Q.out (by omega)
    rw [h64] at hcap
    have HC := Lib.hid hcell
    have H64 := Lib.hid h64
    clear hcell h64
    have HV2 := HV.out
    rw [H64.out] at HV2
    have HV3 := Lib.hid HV2
    clear HV2
    go_enter Tryd.func13, Tryd.ntmps13
    go_wp2_with fail
    refine (seal_any _ xs w HV3.out HX.out HT.out).mono ?_
    rintro e w1 ⟨rfl, b1, t1⟩
    generalize w.heap.size = B1 at b1
    have hR1 := b1.reads 64 64 (by rw [sealB_len]) (by omega)
    go_wp2_with fail
    refine (equal_any _ _ xs (sealB xs) w1 (HV3.out.turn t1 (fun _ _ => id)) (.inl hR1) (by rw [H64.out]; omega)).mono ?_
    rintro e w2 ⟨rfl, t2⟩
    have T2 := t1.trans t2 (fun _ _ => id)
    clear b1 hR1 t1 t2
    by_cases hs : xs = sealB xs
    · rw [decide_eq_true hs]
      have HS := Lib.hid hs
      clear hs
      have hR2 : Reads w2 (.slice (some ⟨g, o, none⟩) 60 c) (xs.take 60) := by
        refine .inr ⟨g, o, c, by simp [H64.out], by simp [H64.out]; omega, fun i hi => ?_⟩
        simp [H64.out] at hi
        have h1 := HC.out i (by rw [H64.out]; omega)
        rw [(T2.cell (p := ⟨g, o + i, none⟩) (World.block_lt_of_cell? w _ h1) id).trans h1]
        simp [List.getD, hi]
      have HR2 := Lib.hid hR2
      clear hR2
      go_wp2_with fail
      refine (clone_any _ (xs.take 60) w2 (by simp; omega) (.inl HR2.out)).mono ?_
      rintro e w3 ⟨v3, rfl, ho3, t3⟩
      go_wp2_with fail
      go_ret2
      exact ⟨T2.trans t3 (fun _ _ => id), .inl ⟨HS.out, _, rfl, Reads.of_owns ho3⟩⟩
    · rw [decide_eq_false hs]
      have HS := Lib.hid hs
      clear hs
      go_wp2_with fail
      go_ret2
      exact ⟨T2, .inr ⟨HS.out, rfl⟩⟩
  · have hne : ((xs.length : Int) != (64 : Int)) = true := by simp; omega
    have hs : xs ≠ sealB xs := fun h => h64 (by rw [h]; exact sealB_len xs)
    have HS := Lib.hid hs
    clear hs h64
    go_enter Tryd.func13, Tryd.ntmps13
    go_wp2_with fail
    go_ret2
    exact ⟨Turn.refl _ _, .inr ⟨HS.out, rfl⟩⟩

theorem sealB_take (xs : List Int) : (sealB xs).take 60 = padB xs := List.take_left' (padB_len xs)
theorem padB_seal (xs : List Int) : padB (sealB xs) = padB xs := by
  unfold padB
  rw [show (60 - (sealB xs).length) = 0 by rw [sealB_len], List.replicate_zero, List.append_nil, sealB_take]; rfl
theorem seal_seal (xs : List Int) : sealB xs = sealB (sealB xs) := by
  have h : sealB (sealB xs) = padB (sealB xs) ++ fourB (sumB (padB (sealB xs))) := rfl
  rw [h, padB_seal]; rfl
theorem Reads.drew {w : World} {v : Value} {xs : List Int} (h : Reads w v xs) : Reads w.drew v xs := h.turn ((Turn.refl (fun _ => False) w).drew) (fun _ _ => id)

set_option maxHeartbeats 1600000 in
set_option maxRecDepth 100000 in
theorem seals_walk (v : Value) (xs : List Int) (w : World) (hv : Src w v xs) (hx : BytesOk xs) (ht : Tab w) (h100 : xs.length ≤ 100) :
    Calls Tryd.prog 4 #[v] w (AwakePost w) := by
  have HV := Lib.hid hv
  have HX := Lib.hid hx
  have HT := Lib.hid ht
  obtain ⟨a, c, rfl, q⟩ := src_any hv
  clear hv hx ht q
  have hd : decide ((100 : Int) < (xs.length : Int)) = false := by simp; omega
  go_enter Tryd.func4, Tryd.ntmps4
  go_wp2_with fail
  refine (awake_any w HT.out).mono ?_
  rintro e w1 ⟨rfl, t1⟩
  go_wp2_with fail
  refine (seal_any _ xs w1 (HV.out.turn t1 (fun _ _ => id)) HX.out (HT.out.turn t1)).mono ?_
  rintro e w2 ⟨rfl, b2, t2⟩
  generalize w1.heap.size = B at b2 ⊢
  have T2 := t1.trans t2 (fun _ _ => id)
  have hR2 := b2.reads 64 64 (by rw [sealB_len]) (by omega)
  clear b2 t2 t1
  go_wp2_with fail
  refine (open_any _ (sealB xs) w2 (.inl hR2) (sealB_ok xs HX.out) (HT.out.turn T2)).mono ?_
  rintro e w3 ⟨t3, h3⟩
  obtain ⟨v3, rfl, hR3⟩ : ∃ v', e = .returned (.tuple #[v', .bool true]) ∧ Reads w3 v' ((sealB xs).take 60) := by
    rcases h3 with ⟨_, h⟩ | ⟨hne, _⟩
    · exact h
    · exact absurd (seal_seal xs) hne
  have T3 := T2.trans t3 (fun _ _ => id)
  have hR2' := hR2.turn t3 (fun _ _ => id)
  clear hR2 T2 t3
  go_wp2_with fail
  refine (refseal_any _ xs w3 (HV.out.turn T3 (fun _ _ => id)) HX.out).mono ?_
  rintro e w4 ⟨v4, rfl, hR4, t4⟩
  have T4 := T3.trans t4 (fun _ _ => id)
  have hR5 := hR2'.turn t4 (fun _ _ => id)
  have hR6 := hR3.turn t4 (fun _ _ => id)
  clear hR2' hR3 T3 t4
  rcases hR4 with ⟨_, h0⟩ | ⟨g, o, cap, rfl, hcap, hcell⟩
  · have := congrArg List.length h0
    rw [sealB_len] at this
    simp at this
  rw [sealB_len] at hcap hcell ⊢
  have hR4 : Reads w4 (.slice (some ⟨g, o, none⟩) 64 cap) (sealB xs) := .inr ⟨g, o, cap, by rw [sealB_len], by rw [sealB_len]; exact hcap, by rw [sealB_len]; exact hcell⟩
  have hR7 : Reads w4 (.slice (some ⟨g, o, none⟩) 60 cap) (padB xs) := by
    refine .inr ⟨g, o, cap, by rw [padB_len], by rw [padB_len]; omega, fun i hi => ?_⟩
    rw [padB_len] at hi
    rw [hcell i (by omega)]
    have : (sealB xs).getD i 0 = (padB xs).getD i 0 := by
      unfold sealB
      rw [List.getD_eq_getElem?_getD, List.getElem?_append_left (by rw [padB_len]; exact hi)]; rfl
    rw [this]
  rw [sealB_take] at hR6
  have k1 := hR5.drew.conv
  have k2 := hR4.drew.conv
  have k3 := hR6.drew.conv
  have k4 := hR7.drew.conv
  generalize strOfNums (sealB xs) = st at k1 k2
  generalize strOfNums (padB xs) = su at k3 k4
  have h60 : (60 : Int) ≤ (cap : Int) := by omega
  have h60' : ¬ (cap : Int) < 60 := by omega
  clear hcell hR4 hR5 hR6 hR7
  go_wp2_with fail
  go_region
  go_wp2_with fail
  go_ret
  exact ⟨by simp, T4.drew⟩

set_option maxHeartbeats 1600000 in
set_option maxRecDepth 100000 in
theorem checkSeals_walk (v : Value) (xs : List Int) (w : World) (hv : Src w v xs) (hx : BytesOk xs) (ht : Tab w) :
    Calls Tryd.prog 4 #[v] w (AwakePost w) := by
  by_cases h100 : xs.length ≤ 100
  · exact seals_walk v xs w hv hx ht h100
  · have HT := Lib.hid ht
    obtain ⟨a, c, rfl, q⟩ := src_any hv
    clear hv hx ht q
    have hd : decide ((100 : Int) < (xs.length : Int)) = true := by simp; omega
    go_enter Tryd.func4, Tryd.ntmps4
    go_wp2_with fail
    refine (awake_any w HT.out).mono ?_
    rintro e w1 ⟨rfl, t1⟩
    go_wp2_with fail
    refine (awake_any w1 (HT.out.turn t1)).mono ?_
    rintro e w2 ⟨rfl, t2⟩
    go_wp2_with fail
    go_ret
    exact ⟨rfl, t1.trans t2 (fun _ _ => id)⟩
end Go.Proofs.YtckeackepolhdaaDoor
