/- Own texts, packed: Q06. -/
import Derived.Test.YtboofamenpcnhaaGreatDoorV30
namespace Go.Proofs.YtboofamenpcnhaaGreatDoor
set_option maxRecDepth 100000
open Go.RowKit
set_option linter.unusedVariables false
set_option linter.unusedSimpArgs false
set_option maxHeartbeats 600000 in
set_option maxRecDepth 100000 in
/-- Nothing goes out. -/
theorem repl_same (w : World) (v x : Value) (i : Nat) (L vs : List (Nat × Nat)) (hv : w.ownsRow 0 122 2 v L.length (flat L)) (hx : w.ownsRow 0 122 2 x vs.length (flat vs)) (hap : ∀ k, x.ownBlock = some k → v.ownBlock ≠ some k)
    (hm : 0 < vs.length) (hb : L.length + vs.length ≤ 10000) (hi : i ≤ L.length) : Calls Tryz.prog 101 #[v, .int .i64 (i : Int), .int .i64 (i : Int), x] w (ReplPost w v (L.take i ++ vs ++ L.drop i)) := by
  have hI := insert_any w v x i L vs hv hx hap hm hb hi
  obtain ⟨LL, HL⟩ : ∃ LL, LL = L.take i ++ vs ++ L.drop i := ⟨_, rfl⟩
  rw [← HL] at hI ⊢
  clear HL
  rcases hv.2 with ⟨rfl, h0⟩ | ⟨g, cap, cur, rfl, _, hg, hnc, hcm, hcs, ht⟩
  · have : i = 0 := by omega
    subst this
    have hI : Calls Tryz.prog 111 #[.slice none 0 0, .int .i64 0, x] w (ReplPost w (.slice none 0 0) LL) := hI
    clear hv hx hap hm h0 hi
    go_enter Tryz.func101, Tryz.ntmps101
    go_wp2_with fail
    refine hI.mono ?_
    rintro e w' ⟨v', rfl, h2, h3, h4⟩
    go_wp2
    go_ret
    exact ⟨v', rfl, h2, h3, h4⟩
  · have hc63 : cap ≤ 9223372036854775807 := by simp only [maxLen] at hcm; omega
    have hin : i ≤ cap := by omega
    obtain ⟨n, hnn⟩ : ∃ n, L.length = n := ⟨_, rfl⟩
    rw [hnn] at hI hi hnc hb ⊢
    clear hv hx hap hm hg hcs ht hnn
    go_enter Tryz.func101, Tryz.ntmps101
    by_cases hci : cap = i
    · subst hci
      go_wp2_with fail
      refine hI.mono ?_
      rintro e w' ⟨v', rfl, h2, h3, h4⟩
      go_wp2
      go_ret
      exact ⟨v', rfl, h2, h3, h4⟩
    · go_wp2_with fail
      refine hI.mono ?_
      rintro e w' ⟨v', rfl, h2, h3, h4⟩
      go_wp2
      go_ret
      exact ⟨v', rfl, h2, h3, h4⟩
/-- All of slices.Replace. -/
theorem replace_any (w : World) (v x : Value) (i j : Nat) (L vs : List (Nat × Nat)) (hv : w.ownsRow 0 122 2 v L.length (flat L)) (hx : w.ownsRow 0 122 2 x vs.length (flat vs)) (hap : ∀ k, x.ownBlock = some k → v.ownBlock ≠ some k)
    (hm : i = j → 0 < vs.length) (hb : L.length + vs.length ≤ 10000) (hij : i ≤ j) (hj : j ≤ L.length) : Calls Tryz.prog 101 #[v, .int .i64 (i : Int), .int .i64 (j : Int), x] w (ReplPost w v (L.take i ++ vs ++ L.drop j)) := by
  by_cases e : i = j
  · subst e
    exact repl_same w v x i L vs hv hx hap (hm rfl) hb hj
  · rcases hv.2 with ⟨rfl, h0⟩ | ⟨g, cap, cur, rfl, _, hg, hnc, hcm, hcs, ht⟩
    · omega
    have h1 : Holds w g cur.toList L := ⟨by unfold RowAt; simpa using hg, ht⟩
    have hcs' : cur.toList.length = cap * 2 := by simpa using hcs
    by_cases ej : j = L.length
    · subst ej
      by_cases hr : i + vs.length ≤ cap
      · exact repl_end w g cap i x L vs _ h1 hcm hcs' hnc hx hb (by omega) hr
      · rcases hx.2 with ⟨rfl, h0⟩ | ⟨vb, vc, vcur, rfl, _, hvg, hnc', hcm', hcs', hvt⟩
        · omega
        exact repl_end_grow w g cap i vb vc L vs _ _ h1 hcm hnc ⟨by unfold RowAt; simpa using hvg, hvt⟩ hb (by omega) (by omega)
    · rcases hx.2 with ⟨rfl, h0⟩ | ⟨vb, vc, vcur, rfl, _, hvg, hnc', hcm', hvcs, hvt⟩
      · have : vs = [] := List.eq_nil_of_length_eq_zero h0
        subst this
        refine repl_less w g cap i j 0 none L [] _ h1 hcm hcs' hnc (fun dCap => ?_) hb (by omega) (by omega) (by simp; omega)
        have := copy_row w.drew g (i * 2) (i + ([] : List (Nat × Nat)).length + (L.length - j) - i) dCap 0 (.slice none 0 0) cur.toList [] 3 (h1.row.heap rfl) (by simp [Builtin.lenOf]) (by simp [Builtin.firstCells]) (by have := h1.len; simp; omega) (by intro v hv; cases hv)
        simpa [flat] using this
      · have hne : vb ≠ g := by
          rintro rfl
          exact hap _ rfl rfl
        have h2 : Holds w vb vcur.toList vs := ⟨by unfold RowAt; simpa using hvg, hvt⟩
        by_cases hle : i + vs.length ≤ j
        · exact repl_less w g cap i j vc (some ⟨vb, 0, none⟩) L vs _ h1 hcm hcs' hnc (fun dCap => copy_all 3 (h1.row.heap rfl) (h2.heap rfl) (by omega) (by have := h1.len; omega)) hb (by omega) (by omega) hle
        · by_cases hr : i + vs.length + (L.length - j) ≤ cap
          · exact repl_more w g cap i j vb vc L vs _ _ h1 hcm hcs' hnc h2 hne hb (by omega) (by omega) (by omega) hr
          · exact repl_grow w g cap i j vb vc L vs _ _ h1 hcm hnc h2 hb (by omega) (by omega) (by omega)
end Go.Proofs.YtboofamenpcnhaaGreatDoor
