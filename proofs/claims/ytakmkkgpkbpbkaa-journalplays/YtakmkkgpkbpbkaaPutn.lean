/- Own contract: no pages are put into a list of sectors. No statement is proved here. -/
import Derived.Test.YtakmkkgpkbpbkaaPutm
namespace Go.Proofs.Ytakmkkgpkbpbkaa
open Go.RowKit
set_option linter.unusedVariables false
set_option linter.unusedSimpArgs false

set_option maxHeartbeats 1600000 in
set_option maxRecDepth 100000 in
theorem put_nil (w : World) (R : Nat → Prop) (g m c : Nat) (us : List Value) (ms : List (List Int)) (hm : MAt w R g us ms) (hml : ms.length = m) (hm0 : 0 < m ∧ m ≤ 5000) (hRl : ∀ q, R q → q < w.heap.size) :
    Calls Try.prog 14 #[.slice (some ⟨g, 0, none⟩) m c, .slice none 0 0] w (fun e w' => ∃ go co us', e = .returned (.slice (some ⟨go, 0, none⟩) m co) ∧ w.heap.size ≤ go ∧ go < w'.heap.size ∧ MAt w' (fun q => R q ∨ (w.heap.size ≤ q ∧ q ≠ go)) go us' (putR ms [] ([] : List (Int × List Int)).length) ∧ Turn (fun _ => False) w w') := by
  obtain ⟨i0, hi0, h2, h3, hz⟩ := info31a
  have hmu := hm.1
  rw [hml] at hmu
  have htl : (us.take m).length = m := by rw [List.length_take]; omega
  have hone : ∀ u ∈ us.take m, u.oneCell' = true := fun u hu => by
    obtain ⟨j, hj, rfl⟩ := List.getElem_of_mem hu
    have hjm : j < m := by omega
    obtain ⟨g9, c9, e9, _⟩ := hm.2.2 j (by omega)
    rw [List.getElem_take]
    have : us.getD j undef = us[j] := by simp [List.getD, show j < us.length by omega]
    rw [← this, e9]; rfl
  have hnews : ∀ j u, (us.take m)[j]? = some u → w.cell? ((⟨g, 0, none⟩ : Addr).add j) = some u := fun j u hj => by
    have hjm : j < m := by have := (List.getElem?_eq_some_iff.1 hj).1; omega
    rw [Addr.add_lit, Nat.zero_add, hm.2.1 j (by omega)]
    rw [List.getElem?_take, if_pos hjm] at hj
    simp [List.getD, hj]
  obtain ⟨v', W, hr, q1, q2, q3⟩ := run_append_own (P := Try.prog) w 0 30 30 31 i0 _ 1 24 Try.underlying30 hi0 hz h2 h3 rfl (by decide) (.slice none 0 0) 0 [] (World.ownsRow_nil _ _ _ _) ⟨g, 0, none⟩ m c (us.take m) (by rw [htl]; omega) hnews hone (by simp only [maxLen]; omega) (by omega) (Nat.zero_le _)
  have q4 := run_append_where (P := Try.prog) w 30 30 31 i0 _ 1 24 Try.underlying30 hi0 hz h2 h3 rfl (by decide) 0 (.slice none 0 0) 0 [] (World.ownsRow_nil _ _ _ _) ⟨g, 0, none⟩ m c (us.take m) (by rw [htl]; omega) hnews hone (by simp only [maxLen]; omega) (by omega) v' W hr
  have TW : Turn (fun _ => False) w W := (Turn.refl _ w).grown q2 (fun k hk _ => by cases hk)
  rw [Nat.zero_add, List.nil_append] at q1
  rcases q1.2 with ⟨h9, h0⟩ | ⟨go, co, cur, rfl, _, hgo, hnc, hcm, hcs, htk⟩
  · omega
  have hgn : w.heap.size ≤ go := by
    rcases q4 with f | ⟨g9, f, hg9⟩
    · cases f
    · cases f; exact hg9
  have hVW : ValsIn W go cur.toList := by unfold ValsIn; simpa using hgo
  have hcl : cur.toList.length = co := by simpa using hcs
  have hco : co ≤ 9223372036854775807 := by simp only [maxLen] at hcm; omega
  have htk' : cur.toList.take m = us.take m := by simpa using htk
  have hget : ∀ j, j < m → cur.toList.getD j undef = us.getD j undef := fun j hj => by
    have := congrArg (fun x => x[j]?) htk'
    simp only [List.getElem?_take, if_pos hj] at this
    simp [List.getD, this]
  have HI := Lib.hid (show ∃ vs : List Value, vs.length = co ∧ ValsIn W go vs ∧ ∀ j, j < m → Told W (fun q => R q ∨ (w.heap.size ≤ q ∧ q ≠ go)) (vs.getD j undef) ((putR ms [] 0).getD j []) from ⟨cur.toList, hcl, hVW, fun j hj => by
    rw [hget j hj]
    obtain ⟨g9, c9, e1, e2, e3, e4, e5⟩ := (hm.2.2 j (by omega)).turn TW (fun _ _ _ => id)
    exact ⟨g9, c9, e1, e2, .inl e3, e4, e5⟩⟩)
  have HRL := Lib.hid hRl
  have HML := Lib.hid hml
  have HTW := Lib.hid TW
  clear hm hRl hml hnews hone q1 q2 q3 q4 hgo hcs htk htk' hget hVW hcl htl TW
  go_enter Try.func14, Try.ntmps14
  go_wp2_with (at_builtin; refine Lib.wpList_append_run _ rfl _ _ _ _ rfl _ _ rfl rfl _ _ hr ?_)
  go_loopw [6] (fun iv wr => ∃ (i : Nat) (vs : List Value), i = 0 ∧ iv = .int .i64 (i : Int) ∧ vs.length = co ∧ ValsIn wr go vs ∧ (∀ j, j < m → Told wr (fun q => R q ∨ (w.heap.size ≤ q ∧ q ≠ go)) (vs.getD j undef) ((putR ms [] i).getD j [])) ∧ (∀ q, R q → q ≠ go) ∧ Turn (fun _ => False) w wr) (fun iv _ => 0)
  case atStart =>
    obtain ⟨vs, v1, v2, v3⟩ := HI.out
    exact ⟨0, vs, rfl, rfl, v1, v2, v3, fun q hq => by have := HRL.out q hq; omega, HTW.out⟩
  case round =>
    obtain ⟨i, vs, rfl, rfl, hvl, hV, hto, hRg, hT⟩ := hrel
    have HF := Lib.hid (And.intro hvl (And.intro hV (And.intro hto hT)))
    clear hvl hV hto hT
    go_wp2_with fail
    go_ret
    obtain ⟨f1, f2, f3, f4⟩ := HF.out
    have HMA : MAt _ (fun q => R q ∨ (w.heap.size ≤ q ∧ q ≠ go)) go vs (putR ms [] 0) := ⟨by rw [putR_len, HML.out, f1]; exact hnc, fun j hj => f2.cell j (by rw [putR_len, HML.out] at hj; omega), fun j hj => f3 j (by rw [putR_len, HML.out] at hj; exact hj)⟩
    have hlt := f2.lt
    exact ⟨go, co, vs, rfl, hgn, hlt, HMA, f4⟩
end Go.Proofs.Ytakmkkgpkbpbkaa
