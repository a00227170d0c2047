/- Own contracts: what is opened is a table. No statement is proved here. -/
import Derived.Test.YtnenkclihgeacaaDoorQ18
namespace Go.Proofs.YtnenkclihgeacaaDoor
set_option maxRecDepth 100000
open Go.RowKit
set_option linter.unusedVariables false
set_option linter.unusedSimpArgs false

theorem less_cmp : ∀ a b : List UInt8, Op.bytesLess a b = decide (Lib.compareBytes a b < 0)
  | [], [] => rfl
  | _ :: _, [] => rfl
  | [], _ :: _ => rfl
  | a :: x, b :: y => by
    unfold Op.bytesLess Lib.compareBytes
    rw [less_cmp x y]
    by_cases h1 : a < b
    · simp [h1]
    · by_cases h2 : b < a
      · have h3 : ¬ a = b := fun e => by subst e; exact absurd h2 (by simp only [UInt8.lt_iff_toNat_lt]; omega)
        simp [h1, h2, h3]
      · have h3 : a = b := UInt8.toNat_inj.1 (by simp only [UInt8.lt_iff_toNat_lt] at h1 h2; omega)
        subst h3
        simp [h1]
structure GoodR (rs : List Rf) (k : Nat) : Prop where
  len : rs.length = 12
  each : ∀ j, j < 12 → rs.getD j rf0 = rf0 ∨ rightB (rs.getD j rf0).name = true
  late : ∀ j, k ≤ j → j < 12 → rs.getD j rf0 = rf0
  uniq : ∀ i j, i < j → j < 12 → (rs.getD i rf0).name = (rs.getD j rf0).name → (rs.getD j rf0).name = ByteArray.empty
theorem bl_getD (j : Nat) : bl.getD j rf0 = rf0 := by
  rw [List.getD_eq_getElem?_getD, bl, List.getElem?_replicate]
  split <;> rfl
theorem opTo_good (C : List (List Int)) : ∀ k rs, k ≤ 12 → OpTo C k rs → GoodR rs k
  | 0, rs, _, h => by
    have e : rs = bl := h
    subst e
    exact ⟨by simp [bl], fun j _ => .inl (bl_getD j), fun j _ _ => bl_getD j, fun i j _ _ _ => by rw [bl_getD]; rfl⟩
  | k + 1, rs, hk, h => by
    obtain ⟨r0, h0, h1⟩ := h
    have g := opTo_good C k r0 (by omega) h0
    rcases h1 with ⟨_, rfl⟩ | ⟨_, hg, rfl⟩
    · exact ⟨g.len, g.each, fun j hj hj2 => g.late j (by omega) hj2, g.uniq⟩
    · obtain ⟨_, hr, hf⟩ := hg
      have hl := g.len
      generalize toldR (C.getD (48 + k) []) = r at *
      rw [List.findIdx?_eq_none_iff] at hf
      have hne : ∀ j, j < 12 → (r0.getD j rf0).name ≠ r.name := fun j hj => by
        have hm : r0.getD j rf0 ∈ r0 := by
          rw [show r0.getD j rf0 = r0[j]'(by omega) by simp [List.getD, show j < r0.length by omega]]
          exact List.getElem_mem _
        have := hf _ hm
        unfold nmB at this
        simpa using this
      have a1 : (r0.set k r).getD k rf0 = r := getD_set_eq k r (by omega)
      have a2 : ∀ p, p ≠ k → (r0.set k r).getD p rf0 = r0.getD p rf0 := fun p hp => getD_set_ne k p r hp
      refine ⟨by simpa using hl, fun j hj => ?_, fun j hj hj2 => ?_, fun i j hij hj he => ?_⟩
      · by_cases e : j = k
        · subst e; rw [a1]; exact .inr hr
        · rw [a2 j e]; exact g.each j hj
      · rw [a2 j (by omega)]; exact g.late j (by omega) hj2
      · by_cases e : j = k
        · subst e
          rw [a1, a2 i (by omega)] at he
          exact absurd he (hne i (by omega))
        · by_cases e2 : i = k
          · subst e2
            rw [a1, a2 j e] at he
            exact absurd he.symm (hne j hj)
          · rw [a2 j e] at he ⊢
            rw [a2 i e2] at he
            exact g.uniq i j hij hj he
/-- What All tells of a table that was opened. -/
theorem all_good {rs l : List Rf} (g : GoodR rs 12) (hp : l.Perm (rs.filter hasN)) (hs : ∀ p q, p < q → q < l.length → cmpR (l.getD p rf0) (l.getD q rf0) ≤ 0) :
    (∀ x ∈ l, rightB x.name = true) ∧ ∀ p q, p < q → q < l.length → cmpR (l.getD p rf0) (l.getD q rf0) < 0 := by
  have hmem : ∀ x ∈ l, x ∈ rs ∧ hasN x = true := fun x hx => by
    have := (hp.mem_iff).1 hx
    simpa [List.mem_filter] using this
  have hgd : ∀ x ∈ rs, ∃ j, j < 12 ∧ rs.getD j rf0 = x := fun x hx => by
    obtain ⟨j, hj, rfl⟩ := List.getElem_of_mem hx
    exact ⟨j, by rw [← g.len]; exact hj, by simp [List.getD, hj]⟩
  have hnE : ∀ x, hasN x = true → x.name ≠ ByteArray.empty := fun x hx => by
    unfold hasN at hx
    simpa using hx
  refine ⟨fun x hx => ?_, fun p q hpq hq => ?_⟩
  · obtain ⟨h1, h2⟩ := hmem x hx
    obtain ⟨j, hj, rfl⟩ := hgd x h1
    rcases g.each j hj with h | h
    · rw [h] at h2; exact absurd h2 (by decide)
    · exact h
  · have hpw : (rs.filter hasN).Pairwise (fun x y => x.name ≠ y.name) := by
      have h1 : rs.Pairwise (fun x y => x.name = y.name → y.name = ByteArray.empty) := by
        rw [List.pairwise_iff_getElem]
        intro i j hi hj hij
        have := g.uniq i j hij (by rw [← g.len]; exact hj)
        simpa [List.getD, hi, hj] using this
      refine (h1.filter hasN).imp_of_mem (fun {x y} _ hy hxy he => ?_)
      exact hnE y (by simpa using (List.mem_filter.1 hy).2) (hxy he)
    have hpl : l.Pairwise (fun x y => x.name ≠ y.name) := (hp.pairwise_iff (fun {x y} h => fun e => h e.symm)).2 hpw
    rw [List.pairwise_iff_getElem] at hpl
    have hne := hpl p q (by omega) hq hpq
    have h0 := hs p q hpq hq
    have e1 : l.getD p rf0 = l[p]'(by omega) := by simp [List.getD, show p < l.length by omega]
    have e2 : l.getD q rf0 = l[q] := by simp [List.getD, hq]
    rw [e1, e2] at h0 ⊢
    by_cases hz : cmpR (l[p]'(by omega)) l[q] = 0
    · exact absurd (toList_inj (by rw [ByteArray.toList_eq, ByteArray.toList_eq]; exact cb_eq _ _ hz)) hne
    · omega
/-- Sectors that are changed behind the journal's back. -/
theorem calm_set {s : List (List Int)} {L : Nat} {C : List (List Int)} (h : SCalm s L C) (i : Nat) (x : List Int) (hi : 49 ≤ i) : ∃ C', C'.length = C.length ∧ SCalm (s.set i x) L C' := by
  have hk : ∀ k, k < 49 → (s.set i x).getD k [] = s.getD k [] := fun k hk => by simp [List.getD, List.getElem?_set_ne (show i ≠ k by omega)]
  have hb : begunM (s.set i x) = begunM s := begunM_congr hk
  refine ⟨(List.range C.length).map (content (s.set i x)), by simp, ⟨by simpa using h.len, fun k hk' => ?_, fun k hk' => by rw [hk k hk']; exact h.nums k hk', fun l hl => ?_⟩⟩
  · have hk2 : k < C.length := by simpa using hk'
    simp [List.getD, hk2]
  · rw [hb] at hl
    simpa using h.good l hl
/-- A write and a flush of the disk's own. -/
theorem write_flush {d : DiskM} {L : Nat} {C : List (List Int)} {n : Nat} (hc : Calm d L C) (hr : Room (n + 2) d) (ha : d.armed = false) (i : Nat) (xs : List Int) (hi : 49 ≤ i) (hi2 : i < 49 + C.length) (hl : xs.length ≤ 64) :
    (d.write (i : Int) xs).1.armed = false ∧ Room (n + 1) (d.write (i : Int) xs).1 ∧ ∃ C', C'.length = C.length ∧ Calm (d.write (i : Int) xs).1.flush.1 L C' ∧ Room n (d.write (i : Int) xs).1.flush.1 ∧ (d.write (i : Int) xs).1.flush.1.armed = false := by
  have hlen := hc.calm.len
  have hw : (d.write (i : Int) xs).1 = { d with wet := [(i, pad64 xs)], acts := d.acts + 1 } := by
    unfold DiskM.write
    rw [if_pos ⟨⟨by omega, by rw [hlen]; omega⟩, hl⟩, hc.off]
    simp [DiskM.act, ha, hc.wet]
  rw [hw]
  have hf : ({ d with wet := [(i, pad64 xs)], acts := d.acts + 1 } : DiskM).flush.1 = { d with safe := d.safe.set i (pad64 xs), wet := [], acts := d.acts + 1 + 1 } := by
    unfold DiskM.flush
    simp [hc.off, DiskM.actE, DiskM.act, ha, DiskM.flushed, keepK]
  rw [hf]
  obtain ⟨C', h1, h2⟩ := calm_set hc.calm i (pad64 xs) hi
  have q1 := hr.acts
  have q2 := hr.left
  have q3 := hr.wet
  rw [hc.wet] at q3
  exact ⟨ha, ⟨by show d.acts + 1 + (n + 1) < _; omega, q2, by show 1 + (n + 1) ≤ _; simp at q3; omega⟩, C', h1, ⟨hc.off, rfl, h2⟩, ⟨by show d.acts + 1 + 1 + n < _; omega, q2, by show 0 + n ≤ _; simp at q3; omega⟩, ha⟩
end Go.Proofs.YtnenkclihgeacaaDoor
