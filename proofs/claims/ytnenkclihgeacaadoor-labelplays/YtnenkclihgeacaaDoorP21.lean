/- Own texts, packed: JSec. -/
import Derived.Test.YtnenkclihgeacaaDoorP02
import Derived.Lib.AppendZeros
import Derived.Lib.AppendZerosOnto
/- Own: a sector's bytes as the reference makes them; its lists. No statement is proved here. -/
namespace Go.Proofs.YtnenkclihgeacaaDoor
set_option maxRecDepth 100000
open Go.RowKit
set_option linter.unusedVariables false
set_option linter.unusedSimpArgs false

theorem info5a : ∃ i, Tryd.prog.info? 5 = some i ∧ i.size = 1 ∧ i.bytes = 1 ∧ i.zero = some (.int .u8 0) := ⟨_, rfl, rfl, rfl, rfl⟩
theorem zeros_u8 (n : Nat) : (Builtin.zeroCells (#[.int .u8 0] : Array Value) n).toList = List.replicate n (.int .u8 0) := by
  apply List.ext_getElem?
  intro k
  simp only [Builtin.zeroCells]
  by_cases h : k < n
  · simp [h, Nat.mod_one]
  · simp [h]
/-- A row of bytes whose head is a sector's. -/
theorem range_of_row {w : World} {g : Nat} {c : List Value} {s : List Int} (h : w.heap[g]? = some (.cells c.toArray 5 (0, 0))) (hc : c.take 64 = secV s) : w.rangeAt g 0 (secV s) := fun j v hj => by
  rw [Nat.zero_add, cell_of_row w g j _ 5 (0, 0) h]
  rw [← hc, List.getElem?_take] at hj
  split at hj
  · simpa using hj
  · cases hj
/-- append([]byte(nil), p...). -/
theorem app_first (w : World) (pv : Value) (ps : List Int) (hv : Src w pv ps) (hl : ps.length ≤ 64) :
    ∃ v1 w1, (Builtin.append_ #[31, 31] 31 #[.slice none 0 0, pv]).run Tryd.prog w = .ok v1 w1 ∧ w1.ownsRow 0 5 1 v1 ps.length (secV ps) ∧ (∀ q, v1.ownBlock = some q → w.heap.size ≤ q) ∧ Turn (fun _ => False) w w1 := by
  obtain ⟨i0, hi0, h2, h3, hz⟩ := info5a
  obtain ⟨a, c, rfl, hc⟩ := src_any hv
  cases a with
  | none =>
    have h0 : ps.length = 0 := by
      apply Classical.byContradiction
      intro h
      obtain ⟨_, g, o, h9, _⟩ := hc (by omega)
      cases h9
    have : ps = [] := List.eq_nil_of_length_eq_zero h0
    subst this
    refine ⟨.slice none 0 0, w, ?_, World.ownsRow_nil _ _ _ _, (fun q hq => by cases hq), Turn.refl _ _⟩
    have hu : Tryd.prog.underlying 31 = some (.slice 5) := Tryd.underlying31
    simp [Builtin.append_, run_underlying hu, sizeOf, typeInfo, hi0, h2, Builtin.lenOf, Builtin.firstCells]
  | some x =>
    have hnews : ∀ j u, (secV ps)[j]? = some u → w.cell? (x.add j) = some u := fun j u hj => by
      have hj' : j < ps.length := by
        have := (List.getElem?_eq_some_iff.1 hj).1
        rwa [secV_len] at this
      obtain ⟨_, g, o, h9, hcell⟩ := hc (by omega)
      cases h9
      rw [Addr.add_lit, hcell j hj']
      simp [secV, hj'] at hj
      rw [← hj]
      simp [List.getD, hj']
    obtain ⟨v', W, hr, q1, q2, q3⟩ := run_append_own (P := Tryd.prog) w 0 31 31 5 i0 _ 1 1 Tryd.underlying31 hi0 hz h2 h3 rfl (by decide) (.slice none 0 0) 0 [] (World.ownsRow_nil _ _ _ _) x ps.length c (secV ps) (by rw [secV_len]; omega) hnews (secV_one ps) (by simp only [maxLen]; omega) (by omega) (Nat.zero_le _)
    have q4 := run_append_where (P := Tryd.prog) w 31 31 5 i0 _ 1 1 Tryd.underlying31 hi0 hz h2 h3 rfl (by decide) 0 (.slice none 0 0) 0 [] (World.ownsRow_nil _ _ _ _) x ps.length c (secV ps) (by rw [secV_len]; omega) hnews (secV_one ps) (by simp only [maxLen]; omega) (by omega) v' W hr
    refine ⟨v', W, hr, by simpa using q1, fun q hq => ?_, (Turn.refl _ w).grown q2 (fun k hk _ => by cases hk)⟩
    rcases q4 with f | ⟨g, f, hg⟩
    · rw [hq] at f; cases f
    · rw [hq] at f; cases f; exact hg
/-- append(v1, make([]byte, 64-len(p))...). -/
theorem app_zeros (w w1 : World) (v1 : Value) (ps : List Int) (hl : ps.length ≤ 64) (ho : w1.ownsRow 0 5 1 v1 ps.length (secV ps)) (hn : ∀ q, v1.ownBlock = some q → w.heap.size ≤ q) (hT : Turn (fun _ => False) w w1) :
    ∃ g c w2, (Builtin.append_ #[31, 3] 31 #[v1, .int .i64 (64 - (ps.length : Int))]).run Tryd.prog w1 = .ok (.slice (some ⟨g, 0, none⟩) 64 c) w2 ∧ 64 ≤ c ∧ w.heap.size ≤ g ∧ g < w2.heap.size ∧ w2.rangeAt g 0 (secV (pad64 ps)) ∧ Turn (fun _ => False) w w2 := by
  obtain ⟨i0, hi0, h2, h3, hz⟩ := info5a
  have hu : Tryd.prog.underlying 31 = some (.slice 5) := Tryd.underlying31
  have hu3 : Tryd.prog.underlying 3 = some (.int .i64) := Tryd.underlying3
  obtain ⟨k, hk⟩ : ∃ k, 64 - ps.length = k := ⟨_, rfl⟩
  rw [show 64 - (ps.length : Int) = (k : Int) by omega]
  have hpad : secV (pad64 ps) = secV ps ++ List.replicate k (.int .u8 0) := by
    unfold secV pad64
    rw [List.map_append, List.map_replicate, hk]
  have hsl : (secV ps).length = ps.length := secV_len ps
  rcases ho.2 with ⟨rfl, h0⟩ | ⟨g, cap, cur, rfl, _, hg, hnc, hcm, hcs, ht⟩
  · have : ps = [] := List.eq_nil_of_length_eq_zero h0
    subst this
    obtain rfl : k = 64 := by simp at hk; omega
    have h := Lib.run_append_nil_zeros (P := Tryd.prog) w1 31 3 31 5 i0 _ .i64 .i64 hu hu3 hi0 hz 64 (by decide) (by omega) (by decide) (by omega)
    have hge := grownCap_ge w1 64 0 5
    refine ⟨_, _, _, h, hge, hT.size, by simp, range_of_row (c := (Builtin.zeroCells (#[.int .u8 0] : Array Value) 64).toList ++ (Builtin.zeroCells (#[.int .u8 0] : Array Value) (grownCap w1 64 0 5 - 64)).toList) ?_ ?_, (hT.drew).alloc _⟩
    · show (w1.heap.push _)[w1.heap.size]? = _; simp [Value.cells]
    · rw [zeros_u8, List.take_append_of_le_length (by simp), List.take_of_length_le (by simp), hpad]; rfl
  · have hcl : cur.toList.length = cap := by simpa using hcs
    have hwl : ps.length ≤ cap := hnc
    have hgw := hn g rfl
    have hg' : w1.heap[g]? = some (.cells cur.toList.toArray 5 (0, 0)) := by simpa using hg
    have ht' : cur.toList.take ps.length = secV ps := by simpa using ht
    by_cases h0 : k = 0
    · subst h0
      have hp64 : ps.length = 64 := by omega
      refine ⟨g, cap, w1, ?_, by omega, hgw, (Array.getElem?_eq_some_iff.1 hg).1, range_of_row hg' (by rw [hpad, ← hp64, ht']; simp), hT⟩
      have hroom : ps.length ≤ cap := hnc
      simp [Builtin.append_, run_underlying hu, run_underlying hu3, sizeOf, typeInfo, hi0, h2, h3, asInt, asIntOf, hroom, hp64, show (64 : Nat) ≤ cap by omega, storeCells, IntKind.wrap_i64]
    · have hkw : IntKind.i64.wrap (k : Int) = k := by rw [IntKind.wrap_i64]; omega
      by_cases hroom : ps.length + k ≤ cap
      · have hst := run_storeCells_at Tryd.prog g ps.length 5 (List.replicate k (.int .u8 0)) 0 cur w1 hg (by simp; omega) (by intro v hv; rw [List.eq_of_mem_replicate hv]; rfl)
        refine ⟨g, cap, w1.setRow g (cur.toList.take ps.length ++ List.replicate k (Value.int .u8 0) ++ cur.toList.drop (ps.length + k)).toArray, ?_, by omega, hgw, by have := (Array.getElem?_eq_some_iff.1 hg).1; simpa using this, range_of_row (setRow_heap w1 g _ _ 5 (0, 0) hg) ?_, ?_⟩
        · have e64 : ps.length + k = 64 := by omega
          have n1 : ¬ ((k : Int) < 0) := by omega
          have n2 : ¬ (281474976710656 < (k : Int)) := by omega
          simp only [Nat.add_zero, List.length_replicate] at hst
          simp [Builtin.append_, run_underlying hu, run_underlying hu3, sizeOf, typeInfo, zeroValue, hi0, hz, h2, h3, asInt, asIntOf, hkw, h0, n1, n2, hroom, e64, show (64 : Nat) ≤ cap by omega, Addr.add_lit, Value.cells, zeros_u8, hst]
        · rw [List.take_append_of_le_length (by simp; omega), List.take_of_length_le (by simp; omega), ht', hpad]
        · exact ⟨hT.os, hT.tape, hT.output, Nat.le_trans hT.size (by simp), fun q hq hS => (setRow_other w1 g q _ (by rintro rfl; omega)).trans (hT.block q hq hS)⟩
      · have hold : (Builtin.firstCells i0.size ps.length (.slice (some ⟨g, 0, none⟩) ps.length cap)).run Tryd.prog w1.drew = .ok (secV ps).toArray w1.drew := by
          rw [h2]
          exact run_firstCells_some w1.drew 1 ps.length ⟨g, 0, none⟩ ps.length cap (secV ps) (by rw [hsl]; omega) (fun j u hj => by
            have := ho.cells (g := g) rfl j u hj
            exact this)
        have h := Lib.run_append_grow_zeros (P := Tryd.prog) w1 31 3 31 5 i0 _ .i64 .i64 hu hu3 hi0 hz (some ⟨g, 0, none⟩) ps.length cap (secV ps) hold k (by omega) (by omega) (by omega) (by omega) (by rw [h3]; omega) (by rw [h3]; exact growslice_fits (by omega) (by omega))
        have e64 : ps.length + k = 64 := by omega
        rw [e64] at h
        have hge := grownCap_ge w1 64 cap 5
        refine ⟨_, _, _, h, hge, hT.size, by simp, range_of_row (c := secV ps ++ (Builtin.zeroCells (#[.int .u8 0] : Array Value) k).toList ++ (Builtin.zeroCells (#[.int .u8 0] : Array Value) (grownCap w1 64 cap 5 - 64)).toList) ?_ ?_, (hT.drew).alloc _⟩
        · show (w1.heap.push _)[w1.heap.size]? = _; simp [Value.cells]
        · rw [zeros_u8, List.take_append_of_le_length (by simp [hsl]; omega), List.take_of_length_le (by simp [hsl]; omega), hpad]
end Go.Proofs.YtnenkclihgeacaaDoor
