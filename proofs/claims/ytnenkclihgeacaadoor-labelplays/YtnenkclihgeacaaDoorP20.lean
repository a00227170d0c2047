/- Own texts, packed: Fp, Rp, Sm, Nm, Bs. -/
import Derived.Test.YtnenkclihgeacaaDoorP18
/- Own contracts: what is opened is a table. No statement is proved here. -/
namespace Go.Proofs.YtnenkclihgeacaaDoor
set_option maxRecDepth 100000
open Go.RowKit
set_option linter.unusedVariables false
set_option linter.unusedSimpArgs false

theorem less_cmp : ∀ a b : List UInt8, Op.bytesLess a b = decide (Lib.compareBytes a b < 0)
  | [], [] => rfl
  | _ :: _, [] => rfl
  | [], _ :: _ => rfl
  | a :: x, b :: y => by
    unfold Op.bytesLess Lib.compareBytes
    rw [less_cmp x y]
    by_cases h1 : a < b
    · simp [h1]
    · by_cases h2 : b < a
      · have h3 : ¬ a = b := fun e => by subst e; exact absurd h2 (by simp only [UInt8.lt_iff_toNat_lt]; omega)
        simp [h1, h2, h3]
      · have h3 : a = b := UInt8.toNat_inj.1 (by simp only [UInt8.lt_iff_toNat_lt] at h1 h2; omega)
        subst h3
        simp [h1]
structure GoodR (rs : List Rf) (k : Nat) : Prop where
  len : rs.length = 12
  each : ∀ j, j < 12 → rs.getD j rf0 = rf0 ∨ rightB (rs.getD j rf0).name = true
  late : ∀ j, k ≤ j → j < 12 → rs.getD j rf0 = rf0
  uniq : ∀ i j, i < j → j < 12 → (rs.getD i rf0).name = (rs.getD j rf0).name → (rs.getD j rf0).name = ByteArray.empty
theorem bl_getD (j : Nat) : bl.getD j rf0 = rf0 := by
  rw [List.getD_eq_getElem?_getD, bl, List.getElem?_replicate]
  split <;> rfl
theorem opTo_good (C : List (List Int)) : ∀ k rs, k ≤ 12 → OpTo C k rs → GoodR rs k
  | 0, rs, _, h => by
    have e : rs = bl := h
    subst e
    exact ⟨by simp [bl], fun j _ => .inl (bl_getD j), fun j _ _ => bl_getD j, fun i j _ _ _ => by rw [bl_getD]; rfl⟩
  | k + 1, rs, hk, h => by
    obtain ⟨r0, h0, h1⟩ := h
    have g := opTo_good C k r0 (by omega) h0
    rcases h1 with ⟨_, rfl⟩ | ⟨_, hg, rfl⟩
    · exact ⟨g.len, g.each, fun j hj hj2 => g.late j (by omega) hj2, g.uniq⟩
    · obtain ⟨_, hr, hf⟩ := hg
      have hl := g.len
      generalize toldR (C.getD (48 + k) []) = r at *
      rw [List.findIdx?_eq_none_iff] at hf
      have hne : ∀ j, j < 12 → (r0.getD j rf0).name ≠ r.name := fun j hj => by
        have hm : r0.getD j rf0 ∈ r0 := by
          rw [show r0.getD j rf0 = r0[j]'(by omega) by simp [List.getD, show j < r0.length by omega]]
          exact List.getElem_mem _
        have := hf _ hm
        unfold nmB at this
        simpa using this
      have a1 : (r0.set k r).getD k rf0 = r := getD_set_eq k r (by omega)
      have a2 : ∀ p, p ≠ k → (r0.set k r).getD p rf0 = r0.getD p rf0 := fun p hp => getD_set_ne k p r hp
      refine ⟨by simpa using hl, fun j hj => ?_, fun j hj hj2 => ?_, fun i j hij hj he => ?_⟩
      · by_cases e : j = k
        · subst e; rw [a1]; exact .inr hr
        · rw [a2 j e]; exact g.each j hj
      · rw [a2 j (by omega)]; exact g.late j (by omega) hj2
      · by_cases e : j = k
        · subst e
          rw [a1, a2 i (by omega)] at he
          exact absurd he (hne i (by omega))
        · by_cases e2 : i = k
          · subst e2
            rw [a1, a2 j e] at he
            exact absurd he.symm (hne j hj)
          · rw [a2 j e] at he ⊢
            rw [a2 i e2] at he
            exact g.uniq i j hij hj he
/-- What All tells of a table that was opened. -/
theorem all_good {rs l : List Rf} (g : GoodR rs 12) (hp : l.Perm (rs.filter hasN)) (hs : ∀ p q, p < q → q < l.length → cmpR (l.getD p rf0) (l.getD q rf0) ≤ 0) :
    (∀ x ∈ l, rightB x.name = true) ∧ ∀ p q, p < q → q < l.length → cmpR (l.getD p rf0) (l.getD q rf0) < 0 := by
  have hmem : ∀ x ∈ l, x ∈ rs ∧ hasN x = true := fun x hx => by
    have := (hp.mem_iff).1 hx
    simpa [List.mem_filter] using this
  have hgd : ∀ x ∈ rs, ∃ j, j < 12 ∧ rs.getD j rf0 = x := fun x hx => by
    obtain ⟨j, hj, rfl⟩ := List.getElem_of_mem hx
    exact ⟨j, by rw [← g.len]; exact hj, by simp [List.getD, hj]⟩
  have hnE : ∀ x, hasN x = true → x.name ≠ ByteArray.empty := fun x hx => by
    unfold hasN at hx
    simpa using hx
  refine ⟨fun x hx => ?_, fun p q hpq hq => ?_⟩
  · obtain ⟨h1, h2⟩ := hmem x hx
    obtain ⟨j, hj, rfl⟩ := hgd x h1
    rcases g.each j hj with h | h
    · rw [h] at h2; exact absurd h2 (by decide)
    · exact h
  · have hpw : (rs.filter hasN).Pairwise (fun x y => x.name ≠ y.name) := by
      have h1 : rs.Pairwise (fun x y => x.name = y.name → y.name = ByteArray.empty) := by
        rw [List.pairwise_iff_getElem]
        intro i j hi hj hij
        have := g.uniq i j hij (by rw [← g.len]; exact hj)
        simpa [List.getD, hi, hj] using this
      refine (h1.filter hasN).imp_of_mem (fun {x y} _ hy hxy he => ?_)
      exact hnE y (by simpa using (List.mem_filter.1 hy).2) (hxy he)
    have hpl : l.Pairwise (fun x y => x.name ≠ y.name) := (hp.pairwise_iff (fun {x y} h => fun e => h e.symm)).2 hpw
    rw [List.pairwise_iff_getElem] at hpl
    have hne := hpl p q (by omega) hq hpq
    have h0 := hs p q hpq hq
    have e1 : l.getD p rf0 = l[p]'(by omega) := by simp [List.getD, show p < l.length by omega]
    have e2 : l.getD q rf0 = l[q] := by simp [List.getD, hq]
    rw [e1, e2] at h0 ⊢
    by_cases hz : cmpR (l[p]'(by omega)) l[q] = 0
    · exact absurd (toList_inj (by rw [ByteArray.toList_eq, ByteArray.toList_eq]; exact cb_eq _ _ hz)) hne
    · omega
/-- Sectors that are changed behind the journal's back. -/
theorem calm_set {s : List (List Int)} {L : Nat} {C : List (List Int)} (h : SCalm s L C) (i : Nat) (x : List Int) (hi : 49 ≤ i) : ∃ C', C'.length = C.length ∧ SCalm (s.set i x) L C' := by
  have hk : ∀ k, k < 49 → (s.set i x).getD k [] = s.getD k [] := fun k hk => by simp [List.getD, List.getElem?_set_ne (show i ≠ k by omega)]
  have hb : begunM (s.set i x) = begunM s := begunM_congr hk
  refine ⟨(List.range C.length).map (content (s.set i x)), by simp, ⟨by simpa using h.len, fun k hk' => ?_, fun k hk' => by rw [hk k hk']; exact h.nums k hk', fun l hl => ?_⟩⟩
  · have hk2 : k < C.length := by simpa using hk'
    simp [List.getD, hk2]
  · rw [hb] at hl
    simpa using h.good l hl
/-- A write and a flush of the disk's own. -/
theorem write_flush {d : DiskM} {L : Nat} {C : List (List Int)} {n : Nat} (hc : Calm d L C) (hr : Room (n + 2) d) (ha : d.armed = false) (i : Nat) (xs : List Int) (hi : 49 ≤ i) (hi2 : i < 49 + C.length) (hl : xs.length ≤ 64) :
    (d.write (i : Int) xs).1.armed = false ∧ Room (n + 1) (d.write (i : Int) xs).1 ∧ ∃ C', C'.length = C.length ∧ Calm (d.write (i : Int) xs).1.flush.1 L C' ∧ Room n (d.write (i : Int) xs).1.flush.1 ∧ (d.write (i : Int) xs).1.flush.1.armed = false := by
  have hlen := hc.calm.len
  have hw : (d.write (i : Int) xs).1 = { d with wet := [(i, pad64 xs)], acts := d.acts + 1 } := by
    unfold DiskM.write
    rw [if_pos ⟨⟨by omega, by rw [hlen]; omega⟩, hl⟩, hc.off]
    simp [DiskM.act, ha, hc.wet]
  rw [hw]
  have hf : ({ d with wet := [(i, pad64 xs)], acts := d.acts + 1 } : DiskM).flush.1 = { d with safe := d.safe.set i (pad64 xs), wet := [], acts := d.acts + 1 + 1 } := by
    unfold DiskM.flush
    simp [hc.off, DiskM.actE, DiskM.act, ha, DiskM.flushed, keepK]
  rw [hf]
  obtain ⟨C', h1, h2⟩ := calm_set hc.calm i (pad64 xs) hi
  have q1 := hr.acts
  have q2 := hr.left
  have q3 := hr.wet
  rw [hc.wet] at q3
  exact ⟨ha, ⟨by show d.acts + 1 + (n + 1) < _; omega, q2, by show 1 + (n + 1) ≤ _; simp at q3; omega⟩, C', h1, ⟨hc.off, rfl, h2⟩, ⟨by show d.acts + 1 + 1 + n < _; omega, q2, by show 0 + n ≤ _; simp at q3; omega⟩, ha⟩
end Go.Proofs.YtnenkclihgeacaaDoor
/- Own contracts: a table that is opened again. No statement is proved here. -/
namespace Go.Proofs.YtnenkclihgeacaaDoor
set_option maxRecDepth 100000
open Go.RowKit
set_option linter.unusedVariables false
set_option linter.unusedSimpArgs false

/-- What the sector of a place holds. -/
def secR (r : Rf) : List Int := if r = rf0 then noughts else sealB (refB r)
def Tells (C : List (List Int)) (rs : List Rf) : Prop := ∀ i, i < 12 → C.getD (48 + i) [] = secR (rs.getD i rf0)
theorem str_nums (s : ByteArray) : strOfNums (numsB s) = s := by
  apply toList_inj
  rw [ByteArray.toList_eq, ByteArray.toList_eq, strOfNums_data, numsB, List.map_map]
  have : (fun n : Int => UInt8.ofNat n.toNat) ∘ (fun b : UInt8 => (b.toNat : Int)) = id := by
    funext b
    simp
  rw [this, List.map_id]
theorem sealB_at {r : Rf} (h : r.Ok) (hn : r.name.size ≤ 12) (i : Nat) (hi : i < 47) : (sealB (refB r)).getD i 0 = (refB r).getD i 0 := by
  have hl := refB_len h hn
  unfold sealB padB
  rw [List.take_of_length_le (by omega)]
  simp only [List.getD_eq_getElem?_getD, List.append_assoc]
  rw [List.getElem?_append_left (by omega)]
theorem sealR_take {r : Rf} (h : r.Ok) (hn : r.name.size ≤ 12) : (sealB (refB r)).take 47 = refB r := by
  have hl := refB_len h hn
  unfold sealB padB
  rw [List.take_of_length_le (show (refB r).length ≤ 60 by omega), List.append_assoc, List.take_append_of_le_length (by omega), List.take_of_length_le (by omega)]
theorem told_seal {r : Rf} (h : r.Ok) (hn : r.name.size ≤ 12) : toldR (sealB (refB r)) = r := by
  have hl := refB_len h hn
  have e1 : (sealB (refB r)).getD 1 0 = fastI r.fast := by rw [sealB_at h hn 1 (by omega)]; rfl
  have e2 : (sealB (refB r)).getD 2 0 = (r.name.size : Int) := by rw [sealB_at h hn 2 (by omega)]; rfl
  have eN : toldN (sealB (refB r)) = r.name.size := by unfold toldN; rw [e2]; simp; omega
  have hs : sealB (refB r) = refB r ++ (sealB (refB r)).drop 47 := by
    conv => lhs; rw [← List.take_append_drop 47 (sealB (refB r)), sealR_take h hn]
  have d3 : ((sealB (refB r)).drop 3).take r.name.size = numsB r.name := by
    rw [hs]
    unfold refB
    simp only [List.cons_append, List.nil_append, List.append_assoc, List.drop_succ_cons, List.drop_zero]
    rw [List.take_append_of_le_length (by rw [numsB_len]; exact Nat.le_refl _), List.take_of_length_le (by rw [numsB_len]; exact Nat.le_refl _)]
  have d15 : ((sealB (refB r)).drop 15).take 32 = r.key := by
    rw [hs]
    have hp : ([1, fastI r.fast, (r.name.size : Int)] ++ numsB r.name ++ List.replicate (12 - r.name.size) 0).length = 15 := by simp [numsB_len]; omega
    unfold refB
    rw [List.append_assoc _ r.key, List.drop_append, List.drop_of_length_le (by omega), hp]
    simp only [Nat.sub_self, List.drop_zero, List.nil_append]
    rw [List.take_append_of_le_length (by rw [h.len]; exact Nat.le_refl _), List.take_of_length_le (by rw [h.len]; exact Nat.le_refl _)]
  unfold toldR
  rw [eN, d3, d15, e1, str_nums]
  obtain ⟨nm, ky, fa⟩ := r
  cases fa <;> rfl
theorem seal_not {r : Rf} (h : r.Ok) (hn : r.name.size ≤ 12) : sealB (refB r) ≠ noughts := fun e => by
  have h1 := sealB_at h hn 0 (by omega)
  rw [e] at h1
  have h2 : (refB r).getD 0 0 = 1 := rfl
  rw [h2] at h1
  exact absurd h1 (by decide)
/-- A table that is opened again is as it was. -/
theorem opTo_tells {C : List (List Int)} {rs : List Rf} (g : GoodR rs 12) (hok : ∀ x ∈ rs, x.Ok) (ht : Tells C rs) : ∀ k, k ≤ 12 → OpTo C k ((rs.take k) ++ List.replicate (12 - k) rf0) ∧ ∀ r0, OpTo C k r0 → r0 = (rs.take k) ++ List.replicate (12 - k) rf0
  | 0, _ => ⟨by show _ = bl; simp [bl], fun r0 h => by rw [show r0 = bl from h]; simp [bl]⟩
  | k + 1, hk => by
    have hlen := g.len
    obtain ⟨i1, i2⟩ := opTo_tells g hok ht k (by omega)
    have hkl : k < rs.length := by omega
    have hgk : rs.getD k rf0 = rs[k] := by simp [List.getD, hkl]
    have hC := ht k (by omega)
    have hx : (rs.getD k rf0).Ok := by rw [hgk]; exact hok _ (List.getElem_mem _)
    have hstep : (rs.take (k + 1)) ++ List.replicate (12 - (k + 1)) rf0 = ((rs.take k) ++ List.replicate (12 - k) rf0).set k (rs.getD k rf0) := by
      rw [List.take_succ_eq_append_getElem hkl, List.set_append_right _ _ (by simp; omega), show 12 - k = (12 - (k + 1)) + 1 by omega, List.replicate_succ]
      have hz : k - (rs.take k).length = 0 := by simp; omega
      rw [hz, hgk, List.set_cons_zero, List.append_assoc]
      rfl
    by_cases e0 : rs.getD k rf0 = rf0
    · have hsec : C.getD (48 + k) [] = noughts := by rw [hC, e0]; unfold secR; rw [if_pos rfl]
      have hsame : ((rs.take k) ++ List.replicate (12 - k) rf0).set k (rs.getD k rf0) = (rs.take k) ++ List.replicate (12 - k) rf0 := by
        rw [e0, List.set_append_right _ _ (by simp; omega), show 12 - k = (12 - (k + 1)) + 1 by omega, List.replicate_succ]
        have hz : k - (rs.take k).length = 0 := by simp; omega
        rw [hz]
        rfl
      rw [hstep, hsame]
      refine ⟨⟨_, i1, .inl ⟨hsec, rfl⟩⟩, fun r0 h => ?_⟩
      obtain ⟨r1, h1, ⟨_, rfl⟩ | ⟨h2, _⟩⟩ := h
      · exact i2 r0 h1
      · exact absurd hsec h2
    · have hr : rightB (rs.getD k rf0).name = true := (g.each k (by omega)).resolve_left e0
      have hsz := (right_size hr).2
      have hsec : C.getD (48 + k) [] = sealB (refB (rs.getD k rf0)) := by rw [hC]; unfold secR; rw [if_neg e0]
      have htd : toldR (C.getD (48 + k) []) = rs.getD k rf0 := by rw [hsec]; exact told_seal hx hsz
      have hne : C.getD (48 + k) [] ≠ noughts := by rw [hsec]; exact seal_not hx hsz
      have hgd : goodP ((rs.take k) ++ List.replicate (12 - k) rf0) (C.getD (48 + k) []) := by
        refine ⟨by rw [htd]; exact hsec, by rw [htd]; exact hr, ?_⟩
        rw [htd, List.findIdx?_eq_none_iff]
        intro y hy
        unfold nmB
        rw [decide_eq_false_iff_not]
        intro he
        rcases List.mem_append.1 hy with hy | hy
        · obtain ⟨j, hj, rfl⟩ := List.getElem_of_mem hy
          have hjk : j < k := by simp at hj; omega
          have e1 : rs.getD j rf0 = (rs.take k)[j] := by simp [List.getD, show j < rs.length by omega]
          have := g.uniq j k hjk (by omega) (by rw [e1]; exact he)
          exact right_ne hr this
        · rw [List.eq_of_mem_replicate hy] at he
          exact right_ne hr he.symm
      rw [hstep]
      refine ⟨⟨_, i1, .inr ⟨hne, hgd, by rw [htd]⟩⟩, fun r0 h => ?_⟩
      obtain ⟨r1, h1, ⟨h2, _⟩ | ⟨_, _, rfl⟩⟩ := h
      · exact absurd h2 hne
      · rw [i2 r1 h1, htd]
theorem opTo_all {C : List (List Int)} {rs : List Rf} (g : GoodR rs 12) (hok : ∀ x ∈ rs, x.Ok) (ht : Tells C rs) : (∀ r0, OpTo C 12 r0 → r0 = rs) ∧ ¬ OpBad C := by
  have hlen := g.len
  refine ⟨fun r0 h => ?_, fun ⟨k, r0, hk, h0, h1, h2⟩ => ?_⟩
  · rw [(opTo_tells g hok ht 12 (Nat.le_refl _)).2 r0 h, List.take_of_length_le (by omega)]
    simp
  · obtain ⟨r1, h3, ⟨h4, _⟩ | ⟨_, h5, _⟩⟩ := (opTo_tells g hok ht (k + 1) (by omega)).1
    · exact h1 h4
    · have e1 := (opTo_tells g hok ht k (by omega)).2 r0 h0
      have e2 := (opTo_tells g hok ht k (by omega)).2 r1 h3
      rw [e1] at h2
      rw [e2] at h5
      exact h2 h5
end Go.Proofs.YtnenkclihgeacaaDoor
/- Own contracts: two rows of refs are held against one another. No statement is proved here. -/
namespace Go.Proofs.YtnenkclihgeacaaDoor
set_option maxRecDepth 100000
open Go.RowKit
set_option linter.unusedVariables false
set_option linter.unusedSimpArgs false

/-- A row of refs as a value. -/
structure RowV (w : World) (v : Value) (l : List Rf) : Prop where
  ok : ∀ x ∈ l, x.Ok
  at_ : (∃ c, v = .slice none 0 c ∧ l = []) ∨ ∃ g o c, v = .slice (some ⟨g, o, none⟩) l.length c ∧ l.length ≤ c ∧ (0 < l.length → g < w.heap.size) ∧ ∀ k, k < l.length → w.rangeAt g (o + k * 34) (l.getD k rf0).vals
theorem RowV.turn {w w' : World} {v : Value} {l : List Rf} {G : Nat → Prop} (h : RowV w v l) (t : Turn G w w') (hn : ∀ q, v.ownBlock = some q → ¬ G q) : RowV w' v l := by
  refine ⟨h.ok, ?_⟩
  rcases h.at_ with ⟨c, h1, h2⟩ | ⟨g, o, c, h1, h2, h3, h4⟩
  · exact .inl ⟨c, h1, h2⟩
  · exact .inr ⟨g, o, c, h1, h2, fun h0 => Nat.lt_of_lt_of_le (h3 h0) t.size, fun k hk => rangeAt_turn (h4 k hk) t (hn g (by rw [h1]; rfl))⟩
theorem RB.rowV {w : World} {g c : Nat} {l rest : List Rf} {ex : List Value} (h : RB w g (l ++ rest) ex) (hc : l.length ≤ c) : RowV w (.slice (some ⟨g, 0, none⟩) l.length c) l := by
  refine ⟨fun x hx => h.ok x (List.mem_append_left _ hx), .inr ⟨g, 0, c, rfl, hc, fun _ => h.lt, fun k hk => ?_⟩⟩
  have := h.row.at_ k (by simp; omega)
  rwa [show (l ++ rest).getD k rf0 = l.getD k rf0 by simp [List.getD, List.getElem?_append_left hk]] at this
theorem run_neq_rf (o1 o2 : Rf) (h1 : o1.Ok) (h2 : o2.Ok) (w : World) : (binOp .neq 37 (.agg o1.vals.toArray) (.agg o2.vals.toArray)).run Tryd.prog w = .ok (.bool (!decide (o1 = o2))) w := by
  have h := run_eql_rf o1 o2 h1 h2 w
  rw [run_eql_struct] at h
  have hn : (binOp .neq 37 (.agg o1.vals.toArray) (.agg o2.vals.toArray)).run Tryd.prog w = ((Op.equalIn 10000 37 (.agg o1.vals.toArray) (.agg o2.vals.toArray)).run Tryd.prog w).andThen fun b w' => .ok (.bool (!b)) w' := by
    simp [binOp]
    rfl
  rw [hn]
  cases hq : (Op.equalIn 10000 37 (.agg o1.vals.toArray) (.agg o2.vals.toArray)).run Tryd.prog w with
  | ok b w2 =>
    rw [hq] at h
    simp only [Result.andThen_ok] at h ⊢
    injection h with h3 h4
    injection h3 with h5
    rw [h5, h4]
  | _ => rw [hq] at h; simp [Result.andThen] at h
theorem exec_neq_rf (ev : Operand → Value) (op : Oper) {a b : Operand} (ho : op.op = .binOp .neq 37 a b 37) (o1 o2 : Rf) (w : World) (h1 : ev a = .agg o1.vals.toArray) (h2 : ev b = .agg o2.vals.toArray) (k1 : o1.Ok) (k2 : o2.Ok) : (execOp ev op).run Tryd.prog w = .ok (.value (.bool (!decide (o1 = o2)))) w := by
  have hg : (eqGuard .neq 37 a b (.agg o1.vals.toArray) (.agg o2.vals.toArray)).run Tryd.prog w = .ok () w := by simp [eqGuard]
  unfold execOp
  simp only [ho, h1, h2, Sem.run_bind, run_neq_rf o1 o2 k1 k2 w, hg, Result.andThen_ok, Sem.run_pure]
theorem getD_ext {a b : List Rf} (hl : a.length = b.length) (h : ∀ k, k < a.length → a.getD k rf0 = b.getD k rf0) : a = b := by
  apply List.ext_getElem hl
  intro i h1 h2
  have := h i h1
  simpa [List.getD, h1, h2] using this
theorem getOk {l : List Rf} (h : ∀ x ∈ l, x.Ok) (k : Nat) (hk : k < l.length) : (l.getD k rf0).Ok := by
  rw [show l.getD k rf0 = l[k] by simp [List.getD, hk]]
  exact h _ (List.getElem_mem _)
set_option maxHeartbeats 4000000 in
theorem same_any (w : World) (v1 v2 : Value) (l1 l2 : List Rf) (h1 : RowV w v1 l1) (h2 : RowV w v2 l2) (hb : l1.length ≤ 1000 ∧ l2.length ≤ 1000) : Calls Tryd.prog 21 #[v1, v2] w fun e w' => e = .returned (.bool (decide (l1 = l2))) ∧ Turn (fun _ => False) w w' := by
  have hf1 : ∃ a c, v1 = .slice a l1.length c := by
    rcases h1.at_ with ⟨c, h, rfl⟩ | ⟨g, o, c, h, _⟩
    · exact ⟨_, _, h⟩
    · exact ⟨_, _, h⟩
  have hf2 : ∃ a c, v2 = .slice a l2.length c := by
    rcases h2.at_ with ⟨c, h, rfl⟩ | ⟨g, o, c, h, _⟩
    · exact ⟨_, _, h⟩
    · exact ⟨_, _, h⟩
  obtain ⟨a1, c1, rfl⟩ := hf1
  obtain ⟨a2, c2, rfl⟩ := hf2
  obtain ⟨n, hn⟩ : ∃ n, l1.length = n := ⟨_, rfl⟩
  obtain ⟨m, hm⟩ : ∃ m, l2.length = m := ⟨_, rfl⟩
  have H1 := Lib.hid h1
  have H2 := Lib.hid h2
  have HN := Lib.hid hn
  have HM := Lib.hid hm
  rw [hn, hm] at hb
  rw [hn, hm]
  clear h1 h2 hn hm
  by_cases hnm : n = m
  · subst hnm
    have hd0 : ((n : Int) != (n : Int)) = false := by simp
    go_enter Tryd.func21, Tryd.ntmps21
    go_wp2_with fail
    go_loopw [4, 5] (fun rv iv wr => rv = .bool false ∧ ∃ k : Nat, k ≤ n ∧ iv = .int .i64 (k : Int) ∧ (∀ j, j < k → l1.getD j rf0 = l2.getD j rf0) ∧ Turn (fun _ => False) w wr) (fun _ iv _ => n - (intOf iv).toNat)
    case atStart => exact ⟨rfl, 0, by omega, rfl, fun j hj => by omega, Turn.refl _ _⟩
    case round =>
      obtain ⟨rfl, k, hk, rfl, hall, htr⟩ := hrel
      have HA := Lib.hid hall
      have HTr := Lib.hid htr
      clear hall htr
      by_cases hlt : k < n
      · have hk1 : k < l1.length := by rw [HN.out]; exact hlt
        have hk2 : k < l2.length := by rw [HM.out]; exact hlt
        obtain ⟨g1, o1, e1, hc1, hs1⟩ : ∃ g o, a1 = some ⟨g, o, none⟩ ∧ n ≤ c1 ∧ wr.rangeAt g (o + k * 34) (l1.getD k rf0).vals := by
          rcases (H1.out.turn HTr.out (fun _ _ => id)).at_ with ⟨c, h, h0⟩ | ⟨g, o, c, h, h3, _, h4⟩
          · rw [h0] at hk1; simp at hk1
          · injection h with q1 q2 q3
            exact ⟨g, o, q1, by rw [q3, ← HN.out]; exact h3, h4 k hk1⟩
        obtain ⟨g2, o2, e2, hc2, hs2⟩ : ∃ g o, a2 = some ⟨g, o, none⟩ ∧ n ≤ c2 ∧ wr.rangeAt g (o + k * 34) (l2.getD k rf0).vals := by
          rcases (H2.out.turn HTr.out (fun _ _ => id)).at_ with ⟨c, h, h0⟩ | ⟨g, o, c, h, h3, _, h4⟩
          · rw [h0] at hk2; simp at hk2
          · injection h with q1 q2 q3
            exact ⟨g, o, q1, by rw [q3, ← HM.out]; exact h3, h4 k hk2⟩
        subst e1 e2
        have hx := getOk H1.out.ok k hk1
        have hy := getOk H2.out.ok k hk2
        have hd1 : decide ((k : Int) < (n : Int)) = true := decide_eq_true (by omega)
        have gk : (0 : Int) ≤ (k : Int) ∧ (k : Int) < (n : Int) := by omega
        have hwk : IntKind.i64.wrap ((k : Int) + 1) = (k : Int) + 1 := by rw [IntKind.wrap_i64]; omega
        generalize hxe : l1.getD k rf0 = x at *
        generalize hye : l2.getD k rf0 = y at *
        have HXE := Lib.hid hxe
        have HYE := Lib.hid hye
        clear hxe hye hk1 hk2
        go_wp2_with fail
        refine wp_region_held_drew (S := fun wq => wq.rangeAt g1 (o1 + k * 34) x.vals ∧ wq.rangeAt g2 (o2 + k * 34) y.vals) (by kernel_rfl) ⟨hs1, hs2⟩ (fun hHeld => ?_)
        refine wpAnyH_take (i := 0) (v := .slice (some ⟨g1, o1, none⟩) n c1) rfl (by kernel_rfl) (by kernel_rfl) (by kernel_rfl) (fun _ _ _ h => h) (Or.inl ⟨by rfl, ?yq1⟩) (by assumption) ?rq1
        case yq1 => (intro wq hSw; (try simp only [List.getElem_toArray, List.getElem_cons_zero, List.getElem_cons_succ]); go_simp; (try with_reducible rfl); all_goals (try omega))
        case rq1 =>
        try simp only [Act.put, List.setIfInBounds_toArray, List.set_cons_zero, List.set_cons_succ, List.getElem_toArray, List.getElem_cons_zero, List.getElem_cons_succ]
        refine wpAnyH_take (i := 1) (v := .int .i64 (k : Int)) rfl (by kernel_rfl) (by kernel_rfl) (by kernel_rfl) (fun _ _ _ h => h) (Or.inl ⟨by rfl, ?yq2⟩) (by assumption) ?rq2
        case yq2 => (intro wq hSw; (try simp only [List.getElem_toArray, List.getElem_cons_zero, List.getElem_cons_succ]); go_simp; (try with_reducible rfl); all_goals (try omega))
        case rq2 =>
        try simp only [Act.put, List.setIfInBounds_toArray, List.set_cons_zero, List.set_cons_succ, List.getElem_toArray, List.getElem_cons_zero, List.getElem_cons_succ]
        refine wpAnyH_take (i := 2) (v := .pointer (some ⟨g1, o1 + k * 34, none⟩)) rfl (by kernel_rfl) (by kernel_rfl) (by kernel_rfl) (fun _ _ _ h => h) (Or.inl ⟨by rfl, ?yq3⟩) (by assumption) ?rq3
        case yq3 => (intro wq hSw; (try simp only [List.getElem_toArray, List.getElem_cons_zero, List.getElem_cons_succ]); go_simp; (try with_reducible rfl); all_goals (try omega))
        case rq3 =>
        try simp only [Act.put, List.setIfInBounds_toArray, List.set_cons_zero, List.set_cons_succ, List.getElem_toArray, List.getElem_cons_zero, List.getElem_cons_succ]
        refine wpAnyH_take (i := 3) (v := .agg x.vals.toArray) rfl (by kernel_rfl) (by kernel_rfl) (by kernel_rfl) (fun _ _ _ h => h) (Or.inl ⟨by rfl, ?yq4⟩) (by assumption) ?rq4
        case yq4 => (intro wq hSw; exact exec_load_mid _ _ 37 _ rfl g1 (o1 + k * 34) rfl x.vals _ _ hSw.1 Tryd.underlying37 rfl (by rw [hx.vlen]; exact info37))
        case rq4 =>
        try simp only [Act.put, List.setIfInBounds_toArray, List.set_cons_zero, List.set_cons_succ, List.getElem_toArray, List.getElem_cons_zero, List.getElem_cons_succ]
        refine wpAnyH_take (i := 4) (v := .slice (some ⟨g2, o2, none⟩) n c2) rfl (by kernel_rfl) (by kernel_rfl) (by kernel_rfl) (fun _ _ _ h => h) (Or.inl ⟨by rfl, ?yq5⟩) (by assumption) ?rq5
        case yq5 => (intro wq hSw; (try simp only [List.getElem_toArray, List.getElem_cons_zero, List.getElem_cons_succ]); go_simp; (try with_reducible rfl); all_goals (try omega))
        case rq5 =>
        try simp only [Act.put, List.setIfInBounds_toArray, List.set_cons_zero, List.set_cons_succ, List.getElem_toArray, List.getElem_cons_zero, List.getElem_cons_succ]
        refine wpAnyH_take (i := 5) (v := .int .i64 (k : Int)) rfl (by kernel_rfl) (by kernel_rfl) (by kernel_rfl) (fun _ _ _ h => h) (Or.inl ⟨by rfl, ?yq6⟩) (by assumption) ?rq6
        case yq6 => (intro wq hSw; (try simp only [List.getElem_toArray, List.getElem_cons_zero, List.getElem_cons_succ]); go_simp; (try with_reducible rfl); all_goals (try omega))
        case rq6 =>
        try simp only [Act.put, List.setIfInBounds_toArray, List.set_cons_zero, List.set_cons_succ, List.getElem_toArray, List.getElem_cons_zero, List.getElem_cons_succ]
        refine wpAnyH_take (i := 6) (v := .pointer (some ⟨g2, o2 + k * 34, none⟩)) rfl (by kernel_rfl) (by kernel_rfl) (by kernel_rfl) (fun _ _ _ h => h) (Or.inl ⟨by rfl, ?yq7⟩) (by assumption) ?rq7
        case yq7 => (intro wq hSw; (try simp only [List.getElem_toArray, List.getElem_cons_zero, List.getElem_cons_succ]); go_simp; (try with_reducible rfl); all_goals (try omega))
        case rq7 =>
        try simp only [Act.put, List.setIfInBounds_toArray, List.set_cons_zero, List.set_cons_succ, List.getElem_toArray, List.getElem_cons_zero, List.getElem_cons_succ]
        refine wpAnyH_take (i := 7) (v := .agg y.vals.toArray) rfl (by kernel_rfl) (by kernel_rfl) (by kernel_rfl) (fun _ _ _ h => h) (Or.inl ⟨by rfl, ?yq8⟩) (by assumption) ?rq8
        case yq8 => (intro wq hSw; exact exec_load_mid _ _ 37 _ rfl g2 (o2 + k * 34) rfl y.vals _ _ hSw.2 Tryd.underlying37 rfl (by rw [hy.vlen]; exact info37))
        case rq8 =>
        try simp only [Act.put, List.setIfInBounds_toArray, List.set_cons_zero, List.set_cons_succ, List.getElem_toArray, List.getElem_cons_zero, List.getElem_cons_succ]
        refine wpAnyH_take (i := 8) (v := .bool (!decide (x = y))) rfl (by kernel_rfl) (by kernel_rfl) (by kernel_rfl) (fun _ _ _ h => h) (Or.inl ⟨by rfl, ?yq9⟩) (by assumption) ?rq9
        case yq9 => (intro wq hSw; exact exec_neq_rf _ _ rfl _ _ wq rfl rfl hx hy)
        case rq9 =>
        try simp only [Act.put, List.setIfInBounds_toArray, List.set_cons_zero, List.set_cons_succ, List.getElem_toArray, List.getElem_cons_zero, List.getElem_cons_succ]
        refine wpAnyH_done (by kernel_rfl) ?_ _
        clear hHeld
        by_cases he : x = y
        · rw [decide_eq_true he]
          have HE := Lib.hid he
          clear he
          go_wp2_with fail
          go_roundw
          case rel => exact ⟨rfl, k + 1, by omega, by go_num, fun j hj => by
            by_cases e : j = k
            · subst e; rw [HXE.out, HYE.out]; exact HE.out
            · exact HA.out j (by omega), HTr.out.drew⟩
          case measure => simp [intOf]; omega
        · rw [decide_eq_false he]
          have HE := Lib.hid he
          clear he
          go_wp2_with fail
          go_ret
          refine ⟨?_, HTr.out.drew⟩
          rw [decide_eq_false (fun h => HE.out (by rw [← HXE.out, ← HYE.out, h]))]
          rfl
      · have hd1 : decide ((k : Int) < (n : Int)) = false := decide_eq_false (by omega)
        go_wp2_with fail
        go_ret
        refine ⟨?_, HTr.out⟩
        rw [decide_eq_true (getD_ext (by rw [HN.out, HM.out]) (fun j hj => HA.out j (by have := HN.out; omega)))]
        rfl
  · have hd0 : ((n : Int) != (m : Int)) = true := by simp; omega
    go_enter Tryd.func21, Tryd.ntmps21
    go_wp2_with fail
    go_ret
    refine ⟨?_, Turn.refl _ _⟩
    rw [decide_eq_false (fun h => hnm (by rw [← HN.out, ← HM.out, h]))]
    rfl
end Go.Proofs.YtnenkclihgeacaaDoor
/- Own contracts: the name of an act. No statement is proved here. -/
namespace Go.Proofs.YtnenkclihgeacaaDoor
set_option maxRecDepth 100000
open Go.RowKit
set_option linter.unusedVariables false
set_option linter.unusedSimpArgs false

/-- An act, as the law's argument has it. -/
structure ActM where
  k : Nat
  n : Nat
  name : ByteArray
  key : List Int
  fast : Bool
  mv : Value
  ms : List Int
def ActM.vals (a : ActM) : List Value := .int .u8 (a.k : Int) :: .int .u8 (a.n : Int) :: .string a.name :: (a.key.map (Value.int .u8) ++ [.bool a.fast, a.mv])
structure ActM.Ok (a : ActM) : Prop where
  k : a.k < 256
  n : a.n < 256
  klen : a.key.length = 32
  kok : BytesOk a.key
def strT : List ByteArray := [{ data := #[109, 97, 105, 110] }, { data := #[98] }, { data := #[99, 46, 49] }, { data := #[108, 111, 110, 103, 46, 110, 97, 109, 101, 46, 105, 116] }, { data := #[120, 57] }, { data := #[97] }, { data := #[100] }, { data := #[101] }, { data := #[102] }, { data := #[103] }, { data := #[104] }, { data := #[105] }, { data := #[106] }, { data := #[107] }]
def ActM.nm (a : ActM) : ByteArray := if a.n % 4 = 0 then a.name else strT.getD (a.n % 14) ByteArray.empty
theorem name_any (a : ActM) (h : a.Ok) (w : World) : Calls Tryd.prog 13 #[.agg a.vals.toArray] w fun e w' => e = .returned (.string a.nm) ∧ Turn (fun _ => False) w w' := by
  have hb := box_alloc w 33 a.vals
  obtain ⟨w1, hw1⟩ : ∃ w1, w.alloc (.cells a.vals.toArray 33) = w1 := ⟨_, rfl⟩
  rw [hw1] at hb
  have c1 := hb.cell 1 (.int .u8 (a.n : Int)) rfl
  have c2 := hb.cell 2 (.string a.name) rfl
  have hn := h.n
  have HB := Lib.hid hb
  have HNM := Lib.hid (show a.nm = if a.n % 4 = 0 then a.name else strT.getD (a.n % 14) ByteArray.empty from rfl)
  have h4 : ((a.n : Int)).tmod 4 = ((a.n % 4 : Nat) : Int) := by rw [Int.tmod_eq_emod_of_nonneg (by omega)]; omega
  have h42 : (a.n : Int) % 4 = ((a.n % 4 : Nat) : Int) := by omega
  have h14 : ((a.n : Int)).tmod 14 = ((a.n % 14 : Nat) : Int) := by rw [Int.tmod_eq_emod_of_nonneg (by omega)]; omega
  have h142 : (a.n : Int) % 14 = ((a.n % 14 : Nat) : Int) := by omega
  obtain ⟨q4, hq4⟩ : ∃ q, a.n % 4 = q := ⟨_, rfl⟩
  obtain ⟨q, hq⟩ : ∃ q, a.n % 14 = q := ⟨_, rfl⟩
  have hql : q < 14 := by omega
  rw [hq4] at h4 h42
  rw [hq] at h14 h142
  have hw4 : IntKind.u8.wrap (q4 : Int) = (q4 : Int) := by rw [IntKind.wrap_u8]; omega
  have hw14 : IntKind.u8.wrap (q : Int) = (q : Int) := by rw [IntKind.wrap_u8]; omega
  have HQ4 := Lib.hid hq4
  have HQ := Lib.hid hq
  clear hb hq4 hq
  by_cases h0 : q4 = 0
  · have hd : decide ((0 : Int) < (q4 : Int)) = false := decide_eq_false (by omega)
    go_enter Tryd.func13, Tryd.ntmps13
    go_wp2_with fail
    go_ret
    refine ⟨?_, HB.out.turn⟩
    rw [HNM.out, HQ4.out, if_pos h0]
    rfl
  · have hd : decide ((0 : Int) < (q4 : Int)) = true := decide_eq_true (by omega)
    have hb2 := box_alloc w1 9 (strT.map Value.string)
    obtain ⟨w2, hw2⟩ : ∃ w2, w1.alloc (.cells #[.string { data := #[109, 97, 105, 110] }, .string { data := #[98] }, .string { data := #[99, 46, 49] }, .string { data := #[108, 111, 110, 103, 46, 110, 97, 109, 101, 46, 105, 116] }, .string { data := #[120, 57] }, .string { data := #[97] }, .string { data := #[100] }, .string { data := #[101] }, .string { data := #[102] }, .string { data := #[103] }, .string { data := #[104] }, .string { data := #[105] }, .string { data := #[106] }, .string { data := #[107] }] 9) = w2 := ⟨_, rfl⟩
    rw [show w1.alloc (.cells (strT.map Value.string).toArray 9) = w2 from hw2] at hb2
    have cq : w2.cell? ⟨w1.heap.size, q, none⟩ = some (.string (strT.getD q ByteArray.empty)) := hb2.cell q _ (by
      rw [List.getElem?_map]
      rw [List.getD_eq_getElem?_getD, List.getElem?_eq_getElem (show q < strT.length from hql)]
      rfl)
    have cn : w2.cell? ⟨w.heap.size, 1, none⟩ = some (.int .u8 (a.n : Int)) := (hb2.turn.cell (p := ⟨w.heap.size, 1, none⟩) (by rw [HB.out.size]; exact Nat.lt_succ_self _) id).trans c1
    have gq : (0 : Int) ≤ (q : Int) ∧ (q : Int) < 14 := by omega
    have HB2 := Lib.hid hb2
    clear hb2
    generalize hs : strT.getD q ByteArray.empty = s at *
    have HS := Lib.hid hs
    clear hs
    go_enter Tryd.func13, Tryd.ntmps13
    go_wp2_with fail
    go_ret
    refine ⟨?_, HB.out.turn.trans HB2.out.turn (fun _ _ => id)⟩
    rw [HNM.out, HQ4.out, if_neg h0, HQ.out, HS.out]
    rfl
end Go.Proofs.YtnenkclihgeacaaDoor
/- Own contracts: the list beside a table; rows of refs are put together. No statement is proved here. -/
namespace Go.Proofs.YtnenkclihgeacaaDoor
set_option maxRecDepth 100000
open Go.RowKit
set_option linter.unusedVariables false
set_option linter.unusedSimpArgs false

/-- Rows that rise and have the same refs are one. -/
theorem rise_unique : ∀ (a b : List Rf), a.Perm b → a.Pairwise (fun x y => cmpR x y < 0) → b.Pairwise (fun x y => cmpR x y < 0) → a = b
  | [], b, hp, _, _ => by rw [List.nil_perm.1 hp]
  | x :: a, [], hp, _, _ => by have := hp.length_eq; simp at this
  | x :: a, y :: b, hp, ha, hb => by
    rw [List.pairwise_cons] at ha hb
    have hx : x ∈ y :: b := (hp.mem_iff).1 List.mem_cons_self
    have hy : y ∈ x :: a := (hp.mem_iff).2 List.mem_cons_self
    have hxy : x = y := by
      rcases List.mem_cons.1 hx with h | h
      · exact h
      · rcases List.mem_cons.1 hy with h' | h'
        · exact h'.symm
        · have h1 := hb.1 x h
          have h2 := ha.1 y h'
          have := cmpR_trans h1 h2
          have h0 : cmpR y y = 0 := cb_refl _
          omega
    subst hxy
    rw [rise_unique a b (List.Perm.cons_inv hp) ha.2 hb.2]
/-- The list beside a table. -/
structure Beside (rs l : List Rf) : Prop where
  perm : l.Perm (rs.filter hasN)
  rise : l.Pairwise (fun x y => cmpR x y < 0)
theorem pairwise_of_getD {l : List Rf} (h : ∀ p q, p < q → q < l.length → cmpR (l.getD p rf0) (l.getD q rf0) < 0) : l.Pairwise (fun x y => cmpR x y < 0) := by
  rw [List.pairwise_iff_getElem]
  intro i j hi hj hij
  have := h i j hij hj
  simpa [List.getD, hi, hj] using this
theorem Beside.all {rs l l' : List Rf} (g : GoodR rs 12) (h : Beside rs l) (hp : l'.Perm (rs.filter hasN)) (hs : ∀ p q, p < q → q < l'.length → cmpR (l'.getD p rf0) (l'.getD q rf0) ≤ 0) : l' = l :=
  rise_unique l' l (hp.trans h.perm.symm) (pairwise_of_getD (all_good g hp hs).2) h.rise
theorem own_rowV {w : World} {base : Nat} {v : Value} {l : List Rf} (h : w.ownsRow base 37 34 v l.length (rfsV l)) (hok : ∀ x ∈ l, x.Ok) : RowV w v l := by
  refine ⟨hok, ?_⟩
  rcases h.2 with ⟨rfl, h0⟩ | ⟨g, cap, cur, rfl, _, hg, hnc, _, hcs, ht⟩
  · exact .inl ⟨0, rfl, List.eq_nil_of_length_eq_zero h0⟩
  · have hrb : RB w g l (cur.toList.drop (l.length * 34)) := ⟨by rw [hg, ← ht, List.take_append_drop], hok⟩
    refine .inr ⟨g, 0, cap, rfl, hnc, fun _ => hrb.lt, fun k hk => ?_⟩
    have := hrb.row.at_ k hk
    rwa [Nat.zero_add] at this ⊢
theorem RowV.cells {w : World} {x : Addr} {n c : Nat} {l : List Rf} (h : RowV w (.slice (some x) n c) l) (hn : l.length = n) : ∀ j u, (rfsV l)[j]? = some u → w.cell? (x.add j) = some u := fun j u hj => by
  have hl := rfsV_len h.ok
  have hjl := (List.getElem?_eq_some_iff.1 hj).1
  rcases h.at_ with ⟨c', h1, _⟩ | ⟨g, o, c', h1, _, _, h4⟩
  · cases h1
  · injection h1 with q1 q2 q3
    injection q1 with q1
    subst q1
    have hk : j / 34 < l.length := by omega
    have h5 := h4 (j / 34) hk (j % 34) u (by
      rw [← rfsV_part h.ok (j / 34) hk, List.getElem?_take, if_pos (by omega), List.getElem?_drop, show j / 34 * 34 + j % 34 = j by omega]
      exact hj)
    rw [Addr.add_mid]
    rwa [show o + j / 34 * 34 + j % 34 = o + j by omega] at h5
/-- append(v, u...) of refs, where v is the call's own. -/
theorem app_refs (w : World) (base : Nat) (v u : Value) (l1 l2 : List Rf) (ho : w.ownsRow base 37 34 v l1.length (rfsV l1)) (hu : RowV w u l2) (hb : base ≤ w.heap.size) (hl : l1.length + l2.length ≤ 1000) :
    ∃ v' w', (Builtin.append_ #[29, 29] 29 #[v, u]).run Tryd.prog w = .ok v' w' ∧ w'.ownsRow base 37 34 v' (l1 ++ l2).length (rfsV (l1 ++ l2)) ∧ Turn (fun q => v.ownBlock = some q) w w' := by
  obtain ⟨i0, hi, hz0, hz1, hz2⟩ := info_parts info37p
  have hlen : (l1 ++ l2).length = l1.length + l2.length := by simp
  rcases hu.at_ with ⟨c, rfl, rfl⟩ | ⟨g, o, c, rfl, hc, _, h4⟩
  · refine ⟨v, w, ?_, by simpa using ho, Turn.refl _ _⟩
    rcases ho.2 with ⟨rfl, h0⟩ | ⟨g, cap, cur, rfl, _, _, hnc, _⟩
    · simp [Builtin.append_, run_underlying Tryd.underlying29, sizeOf, typeInfo, hi, Builtin.lenOf, Builtin.firstCells, h0]
    · simp [Builtin.append_, run_underlying Tryd.underlying29, sizeOf, typeInfo, hi, Builtin.lenOf, Builtin.firstCells, hnc, storeCells]
  · obtain ⟨v', w', hr, q1, q2, q3⟩ := run_append_own (P := Tryd.prog) w base 29 29 37 i0 _ 34 56 Tryd.underlying29 hi hz0 hz1 hz2 (by simp [Value.cells, z37, rf0_ok.vlen]) (by decide) v l1.length _ ho ⟨g, o, none⟩ l2.length c (rfsV l2) (by rw [rfsV_len hu.ok]; omega) (hu.cells rfl) (rfsV_one l2) (by unfold maxLen; omega) (by omega) hb
    refine ⟨v', w', hr, by rw [hlen, rfsV_app]; exact q1, (Turn.refl (fun q => v.ownBlock = some q) w).grown q2 (fun k h _ => h)⟩
end Go.Proofs.YtnenkclihgeacaaDoor
