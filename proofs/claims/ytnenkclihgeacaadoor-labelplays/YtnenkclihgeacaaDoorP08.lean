/- Own texts, packed: JTy, JTz. -/
import Derived.Test.YtnenkclihgeacaaDoorP07
/- Own: all, or none: a transaction, whole or cut. No statement is proved here. -/
namespace Go.Proofs.YtnenkclihgeacaaDoor
set_option maxRecDepth 100000
open Go.RowKit
set_option linter.unusedVariables false
set_option linter.unusedSimpArgs false

def secA (m : Int) (x : Int × List Int) : List Int := pad64 (fourB m ++ fourB x.1 ++ (pad64 x.2).take 32)
def secB (m : Int) (x : Int × List Int) : List Int := pad64 (fourB m ++ fourB x.1 ++ (pad64 x.2).drop 32)
def nsec (m : Int) (l : List (Int × List Int)) (k : Nat) : List Int :=
  if k = 0 then pad64 (fourB m ++ fourB (l.length : Int)) else if k % 2 = 1 then secA m (l.getD (k / 2) (0, [])) else secB m (l.getD (k / 2 - 1) (0, []))
def noteW (m : Int) (l : List (Int × List Int)) : List DAct := noteA m 0 l ++ [.wr 0 (fourB m ++ fourB (l.length : Int))]
theorem noteW_mem {m : Int} {l : List (Int × List Int)} {a : DAct} (h : a ∈ noteW m l) : a.isWr = true ∧ (toW a).1 ≤ 2 * l.length ∧ (toW a).2 = nsec m l (toW a).1 ∧ a.valid 49 ∨ 24 < l.length ∨ ∃ x ∈ l, 64 < x.2.length := by
  by_cases h24 : 24 < l.length
  · exact .inr (.inl h24)
  by_cases h64 : ∃ x ∈ l, 64 < x.2.length
  · exact .inr (.inr h64)
  left
  rcases List.mem_append.1 h with h | h
  · obtain ⟨t, ht⟩ := List.getElem?_of_mem h
    have htl : t < 2 * l.length := by have := (List.getElem?_eq_some_iff.1 ht).1; rwa [noteA_len] at this
    obtain ⟨x, hx⟩ : ∃ x, l[t / 2]? = some x := ⟨_, List.getElem?_eq_getElem (by omega)⟩
    have hx64 : x.2.length ≤ 64 := by
      rcases Nat.lt_or_ge 64 x.2.length with hc | hc
      · exact absurd ⟨x, List.mem_of_getElem? hx, hc⟩ h64
      · exact hc
    have hp := pad64_len x.2 hx64
    obtain ⟨e1, e2⟩ := noteA_at m 0 l (t / 2) x hx
    rw [Nat.zero_add] at e1 e2
    have hg : ∀ i, i = t / 2 → l.getD i (0, []) = x := fun i hi => by subst hi; simp [List.getD, hx]
    rcases Nat.mod_two_eq_zero_or_one t with hm | hm
    · rw [show 2 * (t / 2) = t by omega, ht] at e1
      obtain rfl := Option.some.inj e1
      have hn : (1 + 2 * ((t / 2 : Nat) : Int)).toNat = 1 + 2 * (t / 2) := by omega
      refine ⟨rfl, ?_, ?_, ?_⟩
      · show (1 + 2 * ((t / 2 : Nat) : Int)).toNat ≤ _; omega
      · show secA m x = nsec m l (1 + 2 * ((t / 2 : Nat) : Int)).toNat
        rw [hn]; unfold nsec
        rw [if_neg (by omega), if_pos (by omega), hg _ (by omega)]
      · refine ⟨by omega, ?_⟩
        simp [fourB, hp]
    · rw [show 2 * (t / 2) + 1 = t by omega, ht] at e2
      obtain rfl := Option.some.inj e2
      have hn : (2 + 2 * ((t / 2 : Nat) : Int)).toNat = 2 + 2 * (t / 2) := by omega
      refine ⟨rfl, ?_, ?_, ?_⟩
      · show (2 + 2 * ((t / 2 : Nat) : Int)).toNat ≤ _; omega
      · show secB m x = nsec m l (2 + 2 * ((t / 2 : Nat) : Int)).toNat
        rw [hn]; unfold nsec
        rw [if_neg (by omega), if_neg (by omega), hg _ (by omega)]
      · refine ⟨by omega, ?_⟩
        simp [fourB, hp]
  · simp at h
    subst h
    exact ⟨rfl, Nat.zero_le _, rfl, ⟨by omega, by simp [fourB]⟩⟩
theorem noteW_all (m : Int) (l : List (Int × List Int)) (k : Nat) (hk : k ≤ 2 * l.length) : ∃ y, (k, y) ∈ (noteW m l).map toW := by
  by_cases h0 : k = 0
  · subst h0
    exact ⟨_, List.mem_map.2 ⟨_, List.mem_append_right _ (List.mem_singleton.2 rfl), rfl⟩⟩
  · obtain ⟨x, hx⟩ : ∃ x, l[(k - 1) / 2]? = some x := ⟨_, List.getElem?_eq_getElem (by omega)⟩
    obtain ⟨e1, e2⟩ := noteA_at m 0 l ((k - 1) / 2) x hx
    rw [Nat.zero_add] at e1 e2
    rcases Nat.mod_two_eq_zero_or_one k with hm | hm
    · refine ⟨pad64 (fourB m ++ fourB x.1 ++ (pad64 x.2).drop 32), List.mem_map.2 ⟨_, List.mem_append_left _ (List.mem_of_getElem? e2), ?_⟩⟩
      show ((2 + 2 * (((k - 1) / 2 : Nat) : Int)).toNat, _) = (k, _)
      rw [show (2 + 2 * (((k - 1) / 2 : Nat) : Int)).toNat = k by omega]
    · refine ⟨pad64 (fourB m ++ fourB x.1 ++ (pad64 x.2).take 32), List.mem_map.2 ⟨_, List.mem_append_left _ (List.mem_of_getElem? e1), ?_⟩⟩
      show ((1 + 2 * (((k - 1) / 2 : Nat) : Int)).toNat, _) = (k, _)
      rw [show (1 + 2 * (((k - 1) / 2 : Nat) : Int)).toNat = k by omega]
/-- What is put into a content. -/
def putM (C : List (List Int)) (l : List (Int × List Int)) : List (List Int) := (List.range C.length).map fun k => (lastW (layW l) (49 + k)).getD (C.getD k [])
theorem putM_len (C : List (List Int)) (l : List (Int × List Int)) : (putM C l).length = C.length := by simp [putM]
theorem putM_at (C : List (List Int)) (l : List (Int × List Int)) (k : Nat) (hk : k < C.length) : (putM C l).getD k [] = (lastW (layW l) (49 + k)).getD (C.getD k []) := by
  simp [putM, List.getD, hk]
def padP (l : List (Int × List Int)) : List (Int × List Int) := l.map fun x => (x.1, pad64 x.2)
theorem pad64_twice (xs : List Int) (h : xs.length ≤ 64) : pad64 (pad64 xs) = pad64 xs := by
  have := pad64_len xs h
  rw [show pad64 (pad64 xs) = pad64 xs ++ List.replicate (64 - (pad64 xs).length) 0 from rfl, this]; simp
theorem layW_pad {n : Nat} {l : List (Int × List Int)} (h : fitsB n l = true) : layW (padP l) = layW l := by
  simp only [layW, padP, List.map_map]
  refine List.map_congr_left (fun x hx => ?_)
  simp [pad64_twice x.2 (fits_all h x hx).2]
theorem fits_pad {n : Nat} {l : List (Int × List Int)} (h : fitsB n l = true) : fitsB n (padP l) = true := by
  refine List.all_eq_true.2 (fun y hy => ?_)
  simp only [padP, List.mem_map] at hy
  obtain ⟨x, hx, rfl⟩ := hy
  obtain ⟨h1, h2⟩ := fits_all h x hx
  simp [h1.1, h1.2, pad64_len x.2 h2]
theorem num_pad (m : Int) (hm : 0 ≤ m ∧ m < 4294967296) (r : List Int) : ((numK (pad64 (fourB m ++ r)) 4 : Nat) : Int) = m := by
  rw [show pad64 (fourB m ++ r) = fourB m ++ (r ++ List.replicate (64 - (fourB m ++ r).length) 0) by simp [pad64]]
  exact numK_four m hm _
theorem nsec_num (m : Int) (hm : 0 ≤ m ∧ m < 4294967296) (l : List (Int × List Int)) (k : Nat) : ((numK (nsec m l k) 4 : Nat) : Int) = m := by
  unfold nsec
  split
  · exact num_pad m hm _
  · split
    · unfold secA; rw [List.append_assoc]; exact num_pad m hm _
    · unfold secB; rw [List.append_assoc]; exact num_pad m hm _
theorem sec_mid (m a : Int) (r : List Int) (hr : r.length = 32) : ((pad64 (fourB m ++ fourB a ++ r)).drop 8).take 32 = r := by
  have e : pad64 (fourB m ++ fourB a ++ r) = (fourB m ++ fourB a) ++ (r ++ List.replicate (64 - (fourB m ++ fourB a ++ r).length) 0) := by simp [pad64]
  rw [e, List.drop_append_of_le_length (by simp [fourB]), show (fourB m ++ fourB a).drop 8 = [] from rfl, List.nil_append, List.take_append_of_le_length (by omega), List.take_of_length_le (by omega)]
theorem sec_at (m a : Int) (ha : 0 ≤ a ∧ a < 4294967296) (r : List Int) : ((numK ((pad64 (fourB m ++ fourB a ++ r)).drop 4) 4 : Nat) : Int) = a := by
  have e : pad64 (fourB m ++ fourB a ++ r) = fourB m ++ (fourB a ++ (r ++ List.replicate (64 - (fourB m ++ fourB a ++ r).length) 0)) := by simp [pad64]
  rw [e, List.drop_append_of_le_length (by simp [fourB]), show (fourB m).drop 4 = [] from rfl, List.nil_append]
  exact numK_four a ha _
/-- All of it is there. -/
theorem noted {s s' : List (List Int)} {L n : Nat} {l : List (Int × List Int)} (hl24 : l.length ≤ 24) (hfit : fitsB n l = true) (hn : n ≤ 4096) (hL : L + 1 < 4294967296)
    (h : ∀ k, k ≤ 2 * l.length → s'.getD k [] = nsec ((L + 1 : Nat) : Int) l k) : begunM s' = some (padP l) := by
  have hm : (0 : Int) ≤ ((L + 1 : Nat) : Int) ∧ ((L + 1 : Nat) : Int) < 4294967296 := by omega
  have h0 := h 0 (by omega)
  have e0 : nsec ((L + 1 : Nat) : Int) l 0 = pad64 (fourB ((L + 1 : Nat) : Int) ++ fourB (l.length : Int)) := rfl
  have n0 : numK (s'.getD 0 []) 4 = L + 1 := by have := nsec_num _ hm l 0; rw [h0]; omega
  have n1 : numK ((s'.getD 0 []).drop 4) 4 = l.length := by
    have := sec_at ((L + 1 : Nat) : Int) (l.length : Int) (by omega) []
    rw [List.append_nil] at this
    rw [h0, e0]; omega
  unfold begunM
  rw [n0, n1, if_neg (by omega)]
  have hp : ∀ j, j < l.length → pageM s' (L + 1) j = some ((fun j => ((l.getD j (0, [])).1, pad64 (l.getD j (0, [])).2)) j) := fun j hj => by
    obtain ⟨x, hx⟩ : ∃ x, l[j]? = some x := ⟨_, List.getElem?_eq_getElem hj⟩
    have hgx : l.getD j (0, []) = x := by simp [List.getD, hx]
    obtain ⟨hx1, hx2⟩ := fits_all hfit x (List.mem_of_getElem? hx)
    have ha : s'.getD (1 + 2 * j) [] = secA ((L + 1 : Nat) : Int) x := by
      rw [h _ (by omega)]; unfold nsec
      rw [if_neg (by omega), if_pos (by omega), show (1 + 2 * j) / 2 = j by omega, hgx]
    have hb : s'.getD (2 + 2 * j) [] = secB ((L + 1 : Nat) : Int) x := by
      rw [h _ (by omega)]; unfold nsec
      rw [if_neg (by omega), if_neg (by omega), show (2 + 2 * j) / 2 - 1 = j by omega, hgx]
    have na : numK (s'.getD (1 + 2 * j) []) 4 = L + 1 := by have := nsec_num _ hm l (1 + 2 * j); rw [h _ (by omega)]; omega
    have nb : numK (s'.getD (2 + 2 * j) []) 4 = L + 1 := by have := nsec_num _ hm l (2 + 2 * j); rw [h _ (by omega)]; omega
    have hp64 := pad64_len x.2 hx2
    unfold pageM
    rw [na, nb, if_pos ⟨rfl, rfl⟩, ha, hb]
    unfold secA secB
    rw [sec_at _ _ (by omega), sec_mid _ _ _ (by simp [hp64]), sec_mid _ _ _ (by simp [hp64]), List.take_append_drop]
    dsimp only
    rw [hgx]
  rw [begunK_some l.length hp]
  congr 1
  refine List.ext_getElem? (fun i => ?_)
  by_cases hi : i < l.length
  · simp [padP, hi, List.getD]
  · simp [padP, List.getElem?_eq_none (show l.length ≤ i by omega)]
    omega
theorem noted_calm {s s' : List (List Int)} {L : Nat} {C : List (List Int)} {l : List (Int × List Int)} (h : SCalm s L C) (hset : Settled s C) (hC : C.length ≤ 4047) (hl24 : l.length ≤ 24) (hfit : fitsB C.length l = true) (hL : L + 1 < 4294967296) (hlen : s'.length = s.length)
    (h1 : ∀ k, k ≤ 2 * l.length → s'.getD k [] = nsec ((L + 1 : Nat) : Int) l k) (h2 : ∀ k, 2 * l.length < k → s'.getD k [] = s.getD k []) : SCalm s' (L + 1) (putM C l) ∧ begunM s' = some (padP l) := by
  have hb := noted (s := s) hl24 hfit (by omega) hL h1
  have hm : (0 : Int) ≤ ((L + 1 : Nat) : Int) ∧ ((L + 1 : Nat) : Int) < 4294967296 := by omega
  refine ⟨⟨by rw [hlen, putM_len]; exact h.len, fun k hk => ?_, fun k hk => ?_, fun l' hl' => ?_⟩, hb⟩
  · rw [putM_len] at hk
    unfold content
    rw [hb]
    dsimp only
    rw [layW_pad hfit, putM_at C l k hk, h2 (49 + k) (by omega), hset k hk]
  · by_cases hk2 : k ≤ 2 * l.length
    · have := nsec_num _ hm l k; rw [h1 k hk2]; omega
    · have := h.nums k hk; rw [h2 k (by omega)]; omega
  · rw [hb] at hl'
    obtain rfl := Option.some.inj hl'
    rw [putM_len]; exact fits_pad hfit
/-- Some of it is there. -/
theorem note_part {s s' : List (List Int)} {L : Nat} {C : List (List Int)} {l : List (Int × List Int)} (h : SCalm s L C) (hset : Settled s C) (hC : C.length ≤ 4047) (hl24 : l.length ≤ 24) (hfit : fitsB C.length l = true) (hL : L + 1 < 4294967296) (hlen : s'.length = s.length)
    (h1 : ∀ k, s'.getD k [] = s.getD k [] ∨ (k ≤ 2 * l.length ∧ s'.getD k [] = nsec ((L + 1 : Nat) : Int) l k)) : SCalm s' (L + 1) C ∨ SCalm s' (L + 1) (putM C l) := by
  have hm : (0 : Int) ≤ ((L + 1 : Nat) : Int) ∧ ((L + 1 : Nat) : Int) < 4294967296 := by omega
  have hdat : ∀ k, s'.getD (49 + k) [] = s.getD (49 + k) [] := fun k => by
    rcases h1 (49 + k) with e | ⟨e, _⟩
    · exact e
    · omega
  have hnum : ∀ k, k < 49 → numK (s'.getD k []) 4 ≤ L + 1 := fun k hk => by
    rcases h1 k with e | ⟨_, e⟩
    · have := h.nums k hk; rw [e]; omega
    · have := nsec_num _ hm l k; rw [e]; omega
  have hnone : begunM s' = none → SCalm s' (L + 1) C := fun hb =>
    ⟨by rw [hlen]; exact h.len, fun k hk => by unfold content; rw [hb]; dsimp only; rw [hdat k, hset k hk], hnum, fun l' hl' => by rw [hb] at hl'; simp at hl'⟩
  by_cases h0 : s'.getD 0 [] = s.getD 0 []
  · left
    by_cases hall : ∀ k, k < 49 → s'.getD k [] = s.getD k []
    · have hb := begunM_congr hall
      refine ⟨by rw [hlen]; exact h.len, fun k hk => ?_, hnum, fun l' hl' => h.good l' (by rw [← hb]; exact hl')⟩
      have hc := h.cont k hk
      unfold content at hc ⊢
      rw [hb, hdat k]
      exact hc
    · by_cases hcnt : begunM s' = begunM s
      · refine ⟨by rw [hlen]; exact h.len, fun k hk => ?_, hnum, fun l' hl' => h.good l' (by rw [← hcnt]; exact hl')⟩
        have hc := h.cont k hk
        unfold content at hc ⊢
        rw [hcnt, hdat k]
        exact hc
      · refine hnone ?_
        have hs0 := h.nums 0 (by omega)
        unfold begunM at hcnt ⊢
        rw [h0] at hcnt ⊢
        by_cases hz : numK (s.getD 0 []) 4 = 0 ∨ 24 < numK ((s.getD 0 []).drop 4) 4
        · rw [if_pos hz]
        · rw [if_neg hz] at hcnt ⊢
          rw [if_neg hz] at hcnt
          have : ∃ j, j < numK ((s.getD 0 []).drop 4) 4 ∧ pageM s' (numK (s.getD 0 []) 4) j ≠ pageM s (numK (s.getD 0 []) 4) j := by
            apply Classical.byContradiction
            intro hno
            exact hcnt (begunK_congr _ _ (fun j hj => Classical.byContradiction fun hne => hno ⟨j, hj, hne⟩))
          obtain ⟨j, hj, hne⟩ := this
          refine begunK_none s' _ j _ hj ?_
          unfold pageM at hne ⊢
          rcases h1 (1 + 2 * j) with ea | ⟨_, ea⟩
          · rcases h1 (2 + 2 * j) with eb | ⟨_, eb⟩
            · rw [ea, eb] at hne; exact absurd rfl hne
            · refine if_neg (fun hc => ?_)
              have := nsec_num _ hm l (2 + 2 * j); rw [← eb] at this; omega
          · refine if_neg (fun hc => ?_)
            have := nsec_num _ hm l (1 + 2 * j); rw [← ea] at this; omega
  · have h0' : s'.getD 0 [] = nsec ((L + 1 : Nat) : Int) l 0 := by
      rcases h1 0 with e | ⟨_, e⟩
      · exact absurd e h0
      · exact e
    by_cases hall : ∀ k, k ≤ 2 * l.length → s'.getD k [] = nsec ((L + 1 : Nat) : Int) l k
    · right
      exact (noted_calm h hset hC hl24 hfit hL hlen hall (fun k hk => by
        rcases h1 k with e | ⟨e, _⟩
        · exact e
        · omega)).1
    · left
      refine hnone ?_
      have : ∃ k, k ≤ 2 * l.length ∧ s'.getD k [] ≠ nsec ((L + 1 : Nat) : Int) l k := by
        apply Classical.byContradiction
        intro hno
        exact hall (fun k hk => Classical.byContradiction fun hne => hno ⟨k, hk, hne⟩)
      obtain ⟨k, hk, hne⟩ := this
      have ho : s'.getD k [] = s.getD k [] := by
        rcases h1 k with e | ⟨_, e⟩
        · exact e
        · exact absurd e hne
      have hk0 : k ≠ 0 := fun e => by subst e; exact hne h0'
      have hkn := h.nums k (by omega)
      have n0 : numK (s'.getD 0 []) 4 = L + 1 := by have := nsec_num _ hm l 0; rw [h0']; omega
      have n1 : numK ((s'.getD 0 []).drop 4) 4 = l.length := by
        have := sec_at ((L + 1 : Nat) : Int) (l.length : Int) (by omega) []
        rw [List.append_nil] at this
        rw [h0', show nsec ((L + 1 : Nat) : Int) l 0 = pad64 (fourB ((L + 1 : Nat) : Int) ++ fourB (l.length : Int)) from rfl]; omega
      unfold begunM
      rw [n0, n1, if_neg (by omega)]
      refine begunK_none s' _ ((k - 1) / 2) _ (by omega) ?_
      unfold pageM
      refine if_neg (fun hc => ?_)
      rcases Nat.mod_two_eq_zero_or_one k with hm2 | hm2
      · rw [show 2 + 2 * ((k - 1) / 2) = k by omega, ho] at hc; omega
      · rw [show 1 + 2 * ((k - 1) / 2) = k by omega, ho] at hc; omega
end Go.Proofs.YtnenkclihgeacaaDoor
/- Own: a transaction's run. No statement is proved here. -/
namespace Go.Proofs.YtnenkclihgeacaaDoor
set_option maxRecDepth 100000
open Go.RowKit
set_option linter.unusedVariables false
set_option linter.unusedSimpArgs false

theorem write_pad (d : DiskM) (i : Int) (xs : List Int) (h : xs.length ≤ 64) : d.write i (pad64 xs) = d.write i xs := by
  unfold DiskM.write
  rw [pad64_twice xs h]
  have h1 := pad64_len xs h
  by_cases hc : (0 ≤ i ∧ i < (d.safe.length : Int))
  · rw [if_pos (show (0 ≤ i ∧ i < (d.safe.length : Int)) ∧ (pad64 xs).length ≤ 64 from ⟨hc, by omega⟩), if_pos (show (0 ≤ i ∧ i < (d.safe.length : Int)) ∧ xs.length ≤ 64 from ⟨hc, h⟩)]
  · rw [if_neg (fun h => hc h.1), if_neg (fun h => hc h.1)]
theorem run_pad (l : List (Int × List Int)) (h : ∀ x ∈ l, x.2.length ≤ 64) (t : List DAct) (d : DiskM) : DiskM.run (layA (padP l) ++ t) d = DiskM.run (layA l ++ t) d := by
  induction l generalizing d with
  | nil => rfl
  | cons x l ih =>
    have hx := h x List.mem_cons_self
    show DiskM.run (.wr (49 + x.1) (pad64 x.2) :: (layA (padP l) ++ t)) d = DiskM.run (.wr (49 + x.1) x.2 :: (layA l ++ t)) d
    have e : d.one (.wr (49 + x.1) (pad64 x.2)) = d.one (.wr (49 + x.1) x.2) := write_pad d _ _ hx
    simp only [DiskM.run]
    rw [e, ih (fun y hy => h y (List.mem_cons_of_mem _ hy))]
theorem write_run {d : DiskM} {L : Nat} {C : List (List Int)} {l : List (Int × List Int)} (h : Calm d L C) (hset : Settled d.safe C) (hC : 0 < C.length) (hC2 : C.length ≤ 4047) (hl24 : l.length ≤ 24) (hfit : fitsB C.length l = true) (hL : L + 1 < 4294967296) :
    ((DiskM.run (txA ((L + 1 : Nat) : Int) l) d).2 = 0 ∧ Calm (DiskM.run (txA ((L + 1 : Nat) : Int) l) d).1 (L + 1) (putM C l) ∧ Settled (DiskM.run (txA ((L + 1 : Nat) : Int) l) d).1.safe (putM C l) ∧ (DiskM.run (txA ((L + 1 : Nat) : Int) l) d).1.armed = d.armed) ∨
    (d.armed = true ∧ (DiskM.run (txA ((L + 1 : Nat) : Int) l) d).2 = 9 ∧ (DiskM.run (txA ((L + 1 : Nat) : Int) l) d).1.off = true ∧ ∀ ms, Calm ((DiskM.run (txA ((L + 1 : Nat) : Int) l) d).1.crashed ms) (L + 1) C ∨ Calm ((DiskM.run (txA ((L + 1 : Nat) : Int) l) d).1.crashed ms) (L + 1) (putM C l)) := by
  have h64 : ∀ x ∈ l, x.2.length ≤ 64 := fun x hx => (fits_all hfit x hx).2
  have hmem : ∀ a ∈ noteW ((L + 1 : Nat) : Int) l, a.isWr = true ∧ (toW a).1 ≤ 2 * l.length ∧ (toW a).2 = nsec ((L + 1 : Nat) : Int) l (toW a).1 ∧ a.valid 49 := fun a ha => by
    rcases noteW_mem ha with h | h | ⟨x, hx, hc⟩
    · exact h
    · omega
    · have := h64 x hx; omega
  have hna : noteAll ((L + 1 : Nat) : Int) l = noteW ((L + 1 : Nat) : Int) l ++ [.fl] := by simp [noteAll, noteW]
  have hlen : d.safe.length = 49 + C.length := h.calm.len
  have hv : ∀ a ∈ noteAll ((L + 1 : Nat) : Int) l, a.valid d.safe.length := fun a ha => by
    rw [hna] at ha
    rcases List.mem_append.1 ha with ha | ha
    · obtain ⟨h1, _, _, h2⟩ := hmem a ha
      cases a with
      | wr i xs => exact ⟨⟨h2.1.1, by have := h2.1.2; omega⟩, h2.2⟩
      | fl => trivial
    · simp at ha; subst ha; trivial
  have hst : d.st = (d.safe, []) := by unfold DiskM.st; rw [h.wet]
  obtain ⟨NW, hNW⟩ : ∃ NW, (noteW ((L + 1 : Nat) : Int) l).map toW = NW := ⟨_, rfl⟩
  have hNm : ∀ x ∈ NW, x.1 ≤ 2 * l.length ∧ x.2 = nsec ((L + 1 : Nat) : Int) l x.1 := fun x hx => by
    rw [← hNW] at hx
    obtain ⟨a, ha, rfl⟩ := List.mem_map.1 hx
    exact ⟨(hmem a ha).2.1, (hmem a ha).2.2.1⟩
  have hful : apAll (noteAll ((L + 1 : Nat) : Int) l) d.st = (keepK d.safe NW (fun _ => true) NW.length, []) := by
    rw [hna, apAll_app, hst, ap_writes _ (fun a ha => (hmem a ha).1), hNW]; rfl
  have hnote : SCalm (keepK d.safe NW (fun _ => true) NW.length) (L + 1) (putM C l) ∧ begunM (keepK d.safe NW (fun _ => true) NW.length) = some (padP l) := by
    refine noted_calm h.calm hset hC2 hl24 hfit hL (keepK_len _ _ _ _) (fun k hk => ?_) (fun k hk => ?_)
    · rw [keep_all_get d.safe NW k (by omega)]
      obtain ⟨y, hy⟩ := noteW_all ((L + 1 : Nat) : Int) l k hk
      rw [hNW] at hy
      cases hw : lastW NW k with
      | none => exact absurd rfl (lastW_none hw _ hy)
      | some z => exact (hNm _ (lastW_mem hw)).2
    · rcases keep_part d.safe NW (fun _ => true) k _ (Nat.le_refl _) with e | ⟨x, hx, he, _⟩
      · exact e
      · have := (hNm x hx).1; omega
  have hC' : 0 < (putM C l).length := by rw [putM_len]; exact hC
  rcases run_cases _ d h.off hv with ⟨r1, r2, r3, r4⟩ | ⟨r0, r1, r2, a, b, hab, r3⟩
  · rw [hful] at r3
    have e1 : (DiskM.run (noteAll ((L + 1 : Nat) : Int) l) d).1.safe = _ := congrArg Prod.fst r3
    have e2 : (DiskM.run (noteAll ((L + 1 : Nat) : Int) l) d).1.wet = _ := congrArg Prod.snd r3
    dsimp only at e1 e2
    have htx : DiskM.run (txA ((L + 1 : Nat) : Int) l) d = DiskM.run (layA (padP l) ++ [.fl]) (DiskM.run (noteAll ((L + 1 : Nat) : Int) l) d).1 := by
      unfold txA; rw [DiskM.run_ok _ r1, run_pad l h64]
    rw [htx]
    have hc1 : Calm (DiskM.run (noteAll ((L + 1 : Nat) : Int) l) d).1 (L + 1) (putM C l) := ⟨r2, e2, by rw [e1]; exact hnote.1⟩
    rcases lay_run hc1 hC' (by rw [e1]; exact hnote.2) with ⟨g1, g2, g3, _, g5⟩ | ⟨g0, g1, g2, g3⟩
    · exact .inl ⟨g1, g2, g3, g5.trans r4⟩
    · exact .inr ⟨by rw [← r4]; exact g0, g1, g2, fun ms => .inr (g3 ms)⟩
  · have htx : DiskM.run (txA ((L + 1 : Nat) : Int) l) d = DiskM.run (noteAll ((L + 1 : Nat) : Int) l) d := by
      unfold txA; rw [DiskM.run_bad _ (by rw [r1]; decide)]
    rw [htx]
    refine .inr ⟨r0, r1, r2, fun ms => ?_⟩
    rw [hna] at hab
    rcases prefix_cases hab with ⟨c, hc⟩ | hc
    · have ha : ∀ x ∈ a, x.isWr = true := fun x hx => (hmem x (by rw [hc]; exact List.mem_append_left _ hx)).1
      rw [hst, ap_writes a ha] at r3
      have e1 : (DiskM.run (noteAll ((L + 1 : Nat) : Int) l) d).1.safe = d.safe := congrArg Prod.fst r3
      have e2 : (DiskM.run (noteAll ((L + 1 : Nat) : Int) l) d).1.wet = a.map toW := by have := congrArg Prod.snd r3; simpa [DiskM.st] using this
      have hsub : ∀ x ∈ a.map toW, x ∈ NW := fun x hx => by
        rw [← hNW, hc, List.map_append]; exact List.mem_append_left _ hx
      have := note_part (s' := keepK d.safe (a.map toW) (maskB ms) (a.map toW).length) h.calm hset hC2 hl24 hfit hL (keepK_len _ _ _ _) (fun k => by
        rcases keep_part d.safe (a.map toW) (maskB ms) k _ (Nat.le_refl _) with e | ⟨x, hx, he, hv⟩
        · exact .inl e
        · obtain ⟨q1, q2⟩ := hNm x (hsub x hx)
          exact .inr ⟨by omega, by rw [hv, q2, he]⟩)
      rcases this with g | g
      · exact .inl (crashed_calm ms (by rw [e1, e2]; exact g))
      · exact .inr (crashed_calm ms (by rw [e1, e2]; exact g))
    · rw [hc, ← hna, hful] at r3
      have e1 : (DiskM.run (noteAll ((L + 1 : Nat) : Int) l) d).1.safe = _ := congrArg Prod.fst r3
      have e2 : (DiskM.run (noteAll ((L + 1 : Nat) : Int) l) d).1.wet = _ := congrArg Prod.snd r3
      dsimp only at e1 e2
      exact .inr (crashed_calm ms (by rw [e1, e2]; exact hnote.1))
/-- A new disk. -/
theorem new_calm (n : Nat) (hn : 49 < n) : Calm (newM n) 0 (List.replicate (n - 49) noughts) ∧ Settled (newM n).safe (List.replicate (n - 49) noughts) := by
  have hg : ∀ k, k < n → (newM n).safe.getD k [] = noughts := fun k hk => by simp [newM, List.getD, hk]
  have hb : begunM (newM n).safe = none := by
    unfold begunM
    rw [hg 0 (by omega)]
    rfl
  have hs : Settled (newM n).safe (List.replicate (n - 49) noughts) := fun k hk => by
    simp at hk
    rw [hg (49 + k) (by omega)]
    simp [List.getD, hk]
  refine ⟨⟨rfl, rfl, ⟨?_, fun k hk => ?_, fun k hk => ?_, fun l hl => by rw [hb] at hl; simp at hl⟩⟩, hs⟩
  · simp [newM]; omega
  · unfold content
    rw [hb]
    exact hs k hk
  · rw [hg k (by omega)]
    exact Nat.le_of_eq (by rfl)
end Go.Proofs.YtnenkclihgeacaaDoor
