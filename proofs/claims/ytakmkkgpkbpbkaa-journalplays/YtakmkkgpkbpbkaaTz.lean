/- Own: a transaction's run. No statement is proved here. -/
import Derived.Test.YtakmkkgpkbpbkaaTy
namespace Go.Proofs.Ytakmkkgpkbpbkaa
open Go.RowKit
set_option linter.unusedVariables false
set_option linter.unusedSimpArgs false

theorem write_pad (d : DiskM) (i : Int) (xs : List Int) (h : xs.length ≤ 64) : d.write i (pad64 xs) = d.write i xs := by
  unfold DiskM.write
  rw [pad64_twice xs h]
  have h1 := pad64_len xs h
  by_cases hc : (0 ≤ i ∧ i < (d.safe.length : Int))
  · rw [if_pos (show (0 ≤ i ∧ i < (d.safe.length : Int)) ∧ (pad64 xs).length ≤ 64 from ⟨hc, by omega⟩), if_pos (show (0 ≤ i ∧ i < (d.safe.length : Int)) ∧ xs.length ≤ 64 from ⟨hc, h⟩)]
  · rw [if_neg (fun h => hc h.1), if_neg (fun h => hc h.1)]
theorem run_pad (l : List (Int × List Int)) (h : ∀ x ∈ l, x.2.length ≤ 64) (t : List DAct) (d : DiskM) : DiskM.run (layA (padP l) ++ t) d = DiskM.run (layA l ++ t) d := by
  induction l generalizing d with
  | nil => rfl
  | cons x l ih =>
    have hx := h x List.mem_cons_self
    show DiskM.run (.wr (49 + x.1) (pad64 x.2) :: (layA (padP l) ++ t)) d = DiskM.run (.wr (49 + x.1) x.2 :: (layA l ++ t)) d
    have e : d.one (.wr (49 + x.1) (pad64 x.2)) = d.one (.wr (49 + x.1) x.2) := write_pad d _ _ hx
    simp only [DiskM.run]
    rw [e, ih (fun y hy => h y (List.mem_cons_of_mem _ hy))]
theorem write_run {d : DiskM} {L : Nat} {C : List (List Int)} {l : List (Int × List Int)} (h : Calm d L C) (hset : Settled d.safe C) (hC : 0 < C.length) (hC2 : C.length ≤ 4047) (hl24 : l.length ≤ 24) (hfit : fitsB C.length l = true) (hL : L + 1 < 4294967296) :
    ((DiskM.run (txA ((L + 1 : Nat) : Int) l) d).2 = 0 ∧ Calm (DiskM.run (txA ((L + 1 : Nat) : Int) l) d).1 (L + 1) (putM C l) ∧ Settled (DiskM.run (txA ((L + 1 : Nat) : Int) l) d).1.safe (putM C l) ∧ (DiskM.run (txA ((L + 1 : Nat) : Int) l) d).1.armed = d.armed) ∨
    (d.armed = true ∧ (DiskM.run (txA ((L + 1 : Nat) : Int) l) d).2 = 9 ∧ (DiskM.run (txA ((L + 1 : Nat) : Int) l) d).1.off = true ∧ ∀ ms, Calm ((DiskM.run (txA ((L + 1 : Nat) : Int) l) d).1.crashed ms) (L + 1) C ∨ Calm ((DiskM.run (txA ((L + 1 : Nat) : Int) l) d).1.crashed ms) (L + 1) (putM C l)) := by
  have h64 : ∀ x ∈ l, x.2.length ≤ 64 := fun x hx => (fits_all hfit x hx).2
  have hmem : ∀ a ∈ noteW ((L + 1 : Nat) : Int) l, a.isWr = true ∧ (toW a).1 ≤ 2 * l.length ∧ (toW a).2 = nsec ((L + 1 : Nat) : Int) l (toW a).1 ∧ a.valid 49 := fun a ha => by
    rcases noteW_mem ha with h | h | ⟨x, hx, hc⟩
    · exact h
    · omega
    · have := h64 x hx; omega
  have hna : noteAll ((L + 1 : Nat) : Int) l = noteW ((L + 1 : Nat) : Int) l ++ [.fl] := by simp [noteAll, noteW]
  have hlen : d.safe.length = 49 + C.length := h.calm.len
  have hv : ∀ a ∈ noteAll ((L + 1 : Nat) : Int) l, a.valid d.safe.length := fun a ha => by
    rw [hna] at ha
    rcases List.mem_append.1 ha with ha | ha
    · obtain ⟨h1, _, _, h2⟩ := hmem a ha
      cases a with
      | wr i xs => exact ⟨⟨h2.1.1, by have := h2.1.2; omega⟩, h2.2⟩
      | fl => trivial
    · simp at ha; subst ha; trivial
  have hst : d.st = (d.safe, []) := by unfold DiskM.st; rw [h.wet]
  obtain ⟨NW, hNW⟩ : ∃ NW, (noteW ((L + 1 : Nat) : Int) l).map toW = NW := ⟨_, rfl⟩
  have hNm : ∀ x ∈ NW, x.1 ≤ 2 * l.length ∧ x.2 = nsec ((L + 1 : Nat) : Int) l x.1 := fun x hx => by
    rw [← hNW] at hx
    obtain ⟨a, ha, rfl⟩ := List.mem_map.1 hx
    exact ⟨(hmem a ha).2.1, (hmem a ha).2.2.1⟩
  have hful : apAll (noteAll ((L + 1 : Nat) : Int) l) d.st = (keepK d.safe NW (fun _ => true) NW.length, []) := by
    rw [hna, apAll_app, hst, ap_writes _ (fun a ha => (hmem a ha).1), hNW]; rfl
  have hnote : SCalm (keepK d.safe NW (fun _ => true) NW.length) (L + 1) (putM C l) ∧ begunM (keepK d.safe NW (fun _ => true) NW.length) = some (padP l) := by
    refine noted_calm h.calm hset hC2 hl24 hfit hL (keepK_len _ _ _ _) (fun k hk => ?_) (fun k hk => ?_)
    · rw [keep_all_get d.safe NW k (by omega)]
      obtain ⟨y, hy⟩ := noteW_all ((L + 1 : Nat) : Int) l k hk
      rw [hNW] at hy
      cases hw : lastW NW k with
      | none => exact absurd rfl (lastW_none hw _ hy)
      | some z => exact (hNm _ (lastW_mem hw)).2
    · rcases keep_part d.safe NW (fun _ => true) k _ (Nat.le_refl _) with e | ⟨x, hx, he, _⟩
      · exact e
      · have := (hNm x hx).1; omega
  have hC' : 0 < (putM C l).length := by rw [putM_len]; exact hC
  rcases run_cases _ d h.off hv with ⟨r1, r2, r3, r4⟩ | ⟨r0, r1, r2, a, b, hab, r3⟩
  · rw [hful] at r3
    have e1 : (DiskM.run (noteAll ((L + 1 : Nat) : Int) l) d).1.safe = _ := congrArg Prod.fst r3
    have e2 : (DiskM.run (noteAll ((L + 1 : Nat) : Int) l) d).1.wet = _ := congrArg Prod.snd r3
    dsimp only at e1 e2
    have htx : DiskM.run (txA ((L + 1 : Nat) : Int) l) d = DiskM.run (layA (padP l) ++ [.fl]) (DiskM.run (noteAll ((L + 1 : Nat) : Int) l) d).1 := by
      unfold txA; rw [DiskM.run_ok _ r1, run_pad l h64]
    rw [htx]
    have hc1 : Calm (DiskM.run (noteAll ((L + 1 : Nat) : Int) l) d).1 (L + 1) (putM C l) := ⟨r2, e2, by rw [e1]; exact hnote.1⟩
    rcases lay_run hc1 hC' (by rw [e1]; exact hnote.2) with ⟨g1, g2, g3, _, g5⟩ | ⟨g0, g1, g2, g3⟩
    · exact .inl ⟨g1, g2, g3, g5.trans r4⟩
    · exact .inr ⟨by rw [← r4]; exact g0, g1, g2, fun ms => .inr (g3 ms)⟩
  · have htx : DiskM.run (txA ((L + 1 : Nat) : Int) l) d = DiskM.run (noteAll ((L + 1 : Nat) : Int) l) d := by
      unfold txA; rw [DiskM.run_bad _ (by rw [r1]; decide)]
    rw [htx]
    refine .inr ⟨r0, r1, r2, fun ms => ?_⟩
    rw [hna] at hab
    rcases prefix_cases hab with ⟨c, hc⟩ | hc
    · have ha : ∀ x ∈ a, x.isWr = true := fun x hx => (hmem x (by rw [hc]; exact List.mem_append_left _ hx)).1
      rw [hst, ap_writes a ha] at r3
      have e1 : (DiskM.run (noteAll ((L + 1 : Nat) : Int) l) d).1.safe = d.safe := congrArg Prod.fst r3
      have e2 : (DiskM.run (noteAll ((L + 1 : Nat) : Int) l) d).1.wet = a.map toW := by have := congrArg Prod.snd r3; simpa [DiskM.st] using this
      have hsub : ∀ x ∈ a.map toW, x ∈ NW := fun x hx => by
        rw [← hNW, hc, List.map_append]; exact List.mem_append_left _ hx
      have := note_part (s' := keepK d.safe (a.map toW) (maskB ms) (a.map toW).length) h.calm hset hC2 hl24 hfit hL (keepK_len _ _ _ _) (fun k => by
        rcases keep_part d.safe (a.map toW) (maskB ms) k _ (Nat.le_refl _) with e | ⟨x, hx, he, hv⟩
        · exact .inl e
        · obtain ⟨q1, q2⟩ := hNm x (hsub x hx)
          exact .inr ⟨by omega, by rw [hv, q2, he]⟩)
      rcases this with g | g
      · exact .inl (crashed_calm ms (by rw [e1, e2]; exact g))
      · exact .inr (crashed_calm ms (by rw [e1, e2]; exact g))
    · rw [hc, ← hna, hful] at r3
      have e1 : (DiskM.run (noteAll ((L + 1 : Nat) : Int) l) d).1.safe = _ := congrArg Prod.fst r3
      have e2 : (DiskM.run (noteAll ((L + 1 : Nat) : Int) l) d).1.wet = _ := congrArg Prod.snd r3
      dsimp only at e1 e2
      exact .inr (crashed_calm ms (by rw [e1, e2]; exact hnote.1))
/-- A new disk. -/
theorem new_calm (n : Nat) (hn : 49 < n) : Calm (newM n) 0 (List.replicate (n - 49) noughts) ∧ Settled (newM n).safe (List.replicate (n - 49) noughts) := by
  have hg : ∀ k, k < n → (newM n).safe.getD k [] = noughts := fun k hk => by simp [newM, List.getD, hk]
  have hb : begunM (newM n).safe = none := by
    unfold begunM
    rw [hg 0 (by omega)]
    rfl
  have hs : Settled (newM n).safe (List.replicate (n - 49) noughts) := fun k hk => by
    simp at hk
    rw [hg (49 + k) (by omega)]
    simp [List.getD, hk]
  refine ⟨⟨rfl, rfl, ⟨?_, fun k hk => ?_, fun k hk => ?_, fun l hl => by rw [hb] at hl; simp at hl⟩⟩, hs⟩
  · simp [newM]; omega
  · unfold content
    rw [hb]
    exact hs k hk
  · rw [hg k (by omega)]
    exact Nat.le_of_eq (by rfl)
end Go.Proofs.Ytakmkkgpkbpbkaa
