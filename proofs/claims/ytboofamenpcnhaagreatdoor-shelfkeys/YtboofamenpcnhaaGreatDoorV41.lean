/- Own texts, packed: R00. -/
import Derived.Test.YtboofamenpcnhaaGreatDoorV25
namespace Go.Proofs.YtboofamenpcnhaaGreatDoor
set_option maxRecDepth 100000
open Go.RowKit
set_option linter.unusedVariables false
set_option linter.unusedSimpArgs false
theorem run_append_nothing (base : Option Addr) (n cap : Nat) (h : n ≤ cap) (w : World) : (Builtin.append_ #[29, 29] 29 #[.slice base n cap, .slice none 0 0]).run Tryz.prog w = .ok (.slice base n cap) w := by
  obtain ⟨i0, hi, hz0, hz1, hz2⟩ := info_parts Tryz.info5
  cases base <;> simp [Builtin.append_, run_underlying Tryz.underlying29, sizeOf, typeInfo, hi, Builtin.lenOf, Builtin.firstCells, h, storeCells]
/-- append(v, u...) where v is the call's own. -/
theorem run_append_src (w : World) (base : Nat) (v u : Value) (n : Nat) (zs ys : List Int) (ho : w.ownsRow base 5 1 v n (zs.map (Value.int .u8))) (hu : Src w u ys) (hb : base ≤ w.heap.size) (hl : n + ys.length ≤ 1000000) :
    ∃ v' w', (Builtin.append_ #[29, 29] 29 #[v, u]).run Tryz.prog w = .ok v' w' ∧ w'.ownsRow base 5 1 v' (n + ys.length) ((zs ++ ys).map (Value.int .u8)) ∧ Turn (fun q => v.ownBlock = some q) w w' ∧ Fresh w v v' := by
  obtain ⟨i0, hi, hz0, hz1, hz2⟩ := info_parts Tryz.info5
  rcases src_form hu with ⟨rfl, rfl⟩ | ⟨x, cap, rfl⟩
  · have hform : ∃ b c, v = .slice b n c ∧ n ≤ c := by
      rcases ho.2 with ⟨rfl, rfl⟩ | ⟨g, cap, cur, rfl, _, _, hc, _⟩
      · exact ⟨none, 0, rfl, Nat.le_refl _⟩
      · exact ⟨_, cap, rfl, hc⟩
    obtain ⟨b, c, rfl, hc⟩ := hform
    exact ⟨_, w, run_append_nothing b n c hc w, by simpa using ho, Turn.refl _ _, Fresh.refl _ _⟩
  · have hnews : ∀ (j : Nat) q, (ys.map (Value.int .u8))[j]? = some q → w.cell? (x.add j) = some q := by
      intro j q hj
      have hjl : j < ys.length := by have := (List.getElem?_eq_some_iff.1 hj).1; simpa using this
      rcases hu with (⟨h, _⟩ | ⟨g, o', cap', h, hc, hcell⟩) | ⟨_, _, _, rfl⟩
      · cases h
      · cases h
        rw [Addr.add_mid, hcell j hjl]
        simp [hjl] at hj; subst hj; simp [List.getD, hjl]
      · simp at hjl
    obtain ⟨v', w', hr, h2, h3, _⟩ := run_append_own (P := Tryz.prog) w base 29 29 5 i0 _ 1 1 Tryz.underlying29 hi hz0 hz1 hz2 rfl (by decide) v n _ ho x ys.length cap (ys.map (Value.int .u8)) (by simp) hnews (ints_oneCell _ _) (by unfold maxLen; omega) (by omega) hb
    have h5 := run_append_where (P := Tryz.prog) w 29 29 5 i0 _ 1 1 Tryz.underlying29 hi hz0 hz1 hz2 rfl (by decide) base v n _ ho x ys.length cap (ys.map (Value.int .u8)) (by simp) hnews (ints_oneCell _ _) (by unfold maxLen; omega) (by omega) v' w' hr
    exact ⟨v', w', hr, by rw [List.map_append]; exact h2, (Turn.refl (fun q => v.ownBlock = some q) w).grown h3 (fun k h _ => h), h5⟩
theorem own_slice {w : World} {base : Nat} {v : Value} {n : Nat} {xs : List Value} (ho : w.ownsRow base 5 1 v n xs) : ∃ a c, v = .slice a n c ∧ n ≤ c ∧ ∀ k, v.ownBlock = some k → base ≤ k ∧ k < w.heap.size := by
  refine (match ho.2 with | .inl ⟨h, h0⟩ => ⟨none, 0, by rw [h, h0], by omega, fun k hk => ho.lt k hk⟩ | .inr ⟨g, cap, cur, h, _, _, hc, _⟩ => ⟨_, cap, h, hc, fun k hk => ho.lt k hk⟩)
end Go.Proofs.YtboofamenpcnhaaGreatDoor
