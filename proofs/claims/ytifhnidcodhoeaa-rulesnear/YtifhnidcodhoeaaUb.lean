/- Own contracts: is: a number of an element of some kinds. No statement is proved here. -/
import Derived.Test.YtifhnidcodhoeaaUa
namespace Go.Proofs.Ytifhnidcodhoeaa
set_option maxRecDepth 100000
open Go.RowKit
set_option linter.unusedVariables false
set_option linter.unusedSimpArgs false

/-- A row of bytes, by its cells. -/
def KR (w : World) (v : Value) (ks : List Int) : Prop := ∃ g, v = .slice (some ⟨g, 0, none⟩) ks.length ks.length ∧ ∀ j, j < ks.length → w.cell? ⟨g, j, none⟩ = some (.int .u8 (ks.getD j 0))
theorem KR.turn {w w' : World} {v : Value} {ks : List Int} (h : KR w v ks) (t : Turn (fun _ => False) w w') : KR w' v ks := by
  obtain ⟨g, h1, h2⟩ := h
  exact ⟨g, h1, fun j hj => (t.cell (p := ⟨g, j, none⟩) (World.block_lt_of_cell? w _ (h2 j hj)) (fun h => h)).trans (h2 j hj)⟩
def IxPost (w : World) (ks : List Int) (x : Int) (r : Ending) (w' : World) : Prop :=
  ((∃ k : Nat, k < ks.length ∧ ks.getD k 0 = x ∧ r = .returned (.int .i64 (k : Int))) ∨ ((∀ j, j < ks.length → ks.getD j 0 ≠ x) ∧ r = .returned (.int .i64 (-1)))) ∧ w = w'
theorem ix_any (w : World) (v : Value) (ks : List Int) (x : Int) (hv : KR w v ks) (hb : ks.length ≤ 1000) : Calls Try.prog 44 #[v, .int .u8 x] w (IxPost w ks x) := by
  obtain ⟨g, rfl, hc⟩ := hv
  obtain ⟨n, hn⟩ : ∃ n, ks.length = n := ⟨_, rfl⟩
  rw [hn] at hc hb
  simp only [hn]
  have HN := Lib.hid hn
  have HC := Lib.hid hc
  clear hn hc
  go_enter Try.func44, Try.ntmps44
  go_wp2_with fail
  go_loopw [8] (fun iv wr => ∃ k : Nat, k ≤ n ∧ iv = .int .i64 (k : Int) ∧ (∀ j, j < k → ks.getD j 0 ≠ x) ∧ w = wr) (fun iv _ => n - (intOf iv).toNat)
  case atStart => exact ⟨0, Nat.zero_le _, rfl, fun j hj => by omega, rfl⟩
  case round =>
    obtain ⟨k, hk, rfl, hne, rfl⟩ := hrel
    have HNE := Lib.hid hne
    clear hne
    by_cases hlt : k < n
    · have hd1 : decide ((k : Int) < (n : Int)) = true := by simp; omega
      have gi : (0 : Int) ≤ (k : Int) ∧ (k : Int) < (n : Int) := by omega
      have c0 := HC.out k hlt
      obtain ⟨y, hy⟩ : ∃ y, ks.getD k 0 = y := ⟨_, rfl⟩
      rw [hy] at c0
      have HY := Lib.hid hy
      clear hy
      by_cases he : x = y
      · have d2 : (x == y) = true := by simpa using he
        have HE := Lib.hid he
        clear he
        go_wp2_with fail
        go_ret
        exact ⟨.inl ⟨k, by rw [HN.out]; exact hlt, by rw [HY.out, HE.out], rfl⟩, rfl⟩
      · have d2 : (x == y) = false := by simpa using he
        have HE := Lib.hid he
        clear he
        go_wp2_with fail
        go_roundw
        case rel => exact ⟨k + 1, by omega, by go_num, fun j hj => by
          by_cases e : j = k
          · subst e; rw [HY.out]; exact fun h => HE.out h.symm
          · exact HNE.out j (by omega), trivial⟩
        case measure => simp [intOf]; omega
    · have hke : k = n := by omega
      have hd1 : decide ((k : Int) < (n : Int)) = false := by simp; omega
      go_wp2_with fail
      go_ret
      exact ⟨.inr ⟨fun j hj => HNE.out j (by rw [hke, ← HN.out]; exact hj), rfl⟩, rfl⟩
theorem any_of_ix {ks : List Int} {k : Nat} {x : Int} (hk : k < ks.length) (h : ks.getD k 0 = x) : ks.contains x = true := by
  rw [List.contains_iff_mem]
  subst h
  simp [List.getD, hk]
theorem none_of_ix {ks : List Int} {x : Int} (h : ∀ j, j < ks.length → ks.getD j 0 ≠ x) : ks.contains x = false := by
  rw [Bool.eq_false_iff]
  intro hc
  rw [List.contains_iff_mem] at hc
  obtain ⟨j, hj, e⟩ := List.mem_iff_getElem.1 hc
  exact h j hj (by simp [List.getD, hj, e])
theorem kcontains_any (w : World) (v : Value) (ks : List Int) (x : Int) (hv : KR w v ks) (hb : ks.length ≤ 1000) : Calls Try.prog 42 #[v, .int .u8 x] w fun r w' => r = .returned (.bool (ks.contains x)) ∧ w = w' := by
  have HV := Lib.hid hv
  clear hv
  go_enter Try.func42, Try.ntmps42
  go_wp2_with fail
  refine (ix_any w v ks x HV.out hb).mono ?_
  rintro e w2 ⟨hi, rfl⟩
  rcases hi with ⟨k, h1, h2, rfl⟩ | ⟨h1, rfl⟩
  · have HF := Lib.hid (any_of_ix h1 h2)
    have d1 : decide ((0 : Int) ≤ (k : Int)) = true := decide_eq_true (by omega)
    clear h1 h2
    go_wp2_with fail
    go_ret
    exact ⟨by rw [HF.out]; rfl, rfl⟩
  · have HF := Lib.hid (none_of_ix h1)
    clear h1
    go_wp2_with fail
    go_ret
    exact ⟨by rw [HF.out]; rfl, rfl⟩
/-- What Find tells, by the first of that number. -/
theorem find_at_some {l : List El} {nr : Int} {p : Nat} (hp : IsPlace l nr p) (h : thereB l nr p = true) : atE l nr = some (l.getD p el0) := by
  have h2 := of_decide_eq_true h
  exact atE_some h2.1 h2.2 (fun j hj => by have := hp.lo j hj; omega)
theorem find_at_none {l : List El} {nr : Int} {p : Nat} (hp : IsPlace l nr p) (hr : Rises l) (h : thereB l nr p = false) : atE l nr = none := by
  have h2 := of_decide_eq_false h
  refine atE_none (fun j hj e => ?_)
  by_cases h3 : j < p
  · have := hp.lo j h3; omega
  · by_cases h4 : j = p
    · subst h4; exact h2 ⟨hj, e⟩
    · have h5 := hp.hi p (Nat.le_refl _) (by omega)
      have h6 := hr.get (i := p) (j := j) (by omega) hj
      omega
/-- A number is that of an element of one of some kinds. -/
def isB (l : List El) (nr : Int) (ks : List Int) : Bool := match atE l nr with
  | some y => ks.contains y.kind
  | none => false
theorem find_at_any (w : World) (v : Value) (l : List El) (nr : Int) (hv : RowV w v l) (hr : Rises l) (hb : l.length ≤ 1000) : Calls Try.prog 39 #[v, .int .i64 nr] w fun r w' => ((∃ y, atE l nr = some y ∧ r = .returned (.tuple #[.agg y.vals.toArray, .bool true])) ∨ (atE l nr = none ∧ r = .returned (.tuple #[.agg el0.vals.toArray, .bool false]))) ∧ Turn (fun _ => False) w w' := by
  refine (find_any w v l nr hv hr hb).mono ?_
  rintro r w' ⟨p, hp, rfl, t⟩
  refine ⟨?_, t⟩
  cases h : thereB l nr p
  · exact .inr ⟨find_at_none hp hr h, by unfold findX; rw [if_neg (by rw [h]; decide)]⟩
  · exact .inl ⟨_, find_at_some hp h, by unfold findX; rw [if_pos h]⟩
set_option maxHeartbeats 4000000 in
theorem is_any (w : World) (v K : Value) (l : List El) (nr : Int) (ks : List Int) (hv : RowV w v l) (hr : Rises l) (hb : l.length ≤ 1000) (hk : KR w K ks) (hkl : ks.length ≤ 1000) : Calls Try.prog 38 #[v, .int .i64 nr, K] w fun r w' => r = .returned (.bool (isB l nr ks)) ∧ Turn (fun _ => False) w w' := by
  obtain ⟨la, lc, rfl⟩ := hv.form
  obtain ⟨n, hn⟩ : ∃ n, l.length = n := ⟨_, rfl⟩
  rw [hn] at hv hb
  simp only [hn]
  have HV := Lib.hid hv
  have HK := Lib.hid hk
  have HRI := Lib.hid hr
  have HN := Lib.hid hn
  clear hn hv hk hr
  go_enter Try.func38, Try.ntmps38
  go_wp2_with fail
  refine (find_at_any w _ l nr HV.out HRI.out (by rw [HN.out]; exact hb)).mono ?_
  rintro r w2 ⟨⟨y, hy, rfl⟩ | ⟨hy, rfl⟩, t2⟩
  · have HY := Lib.hid hy
    have HT2 := Lib.hid t2
    clear t2 hy
    have hbb := box_alloc w2 35 el0.vals
    obtain ⟨B, hB⟩ : ∃ B, w2.heap.size = B := ⟨_, rfl⟩
    obtain ⟨wz, hwz⟩ : ∃ wz, w2.alloc (.cells el0.vals.toArray 35) = wz := ⟨_, rfl⟩
    have hx0 : ∀ ev op, op.op = .alloc 35 → (execOp ev op).run Try.prog w2 = .ok (.value (.pointer (some ⟨B, 0, none⟩))) wz := fun ev op ho => by rw [← hwz, ← hB]; exact exec_zero24 ev op ho _
    rw [hwz] at hbb
    have hhh := hbb.heap
    rw [hB] at hhh
    have HX0 := Lib.hid hx0
    have HBB := Lib.hid hbb
    have HHB := Lib.hid hhh
    have HBE := Lib.hid hB
    clear hbb hB hwz hx0 hhh
    go_wp2_with (with_reducible (show wpList _ _ _ (Oper.mk (some 7) (.alloc 35) _ _ _ _ :: _) _ _); refine still ?_)
    refine list_exec rfl _ _ (HX0.out _ _ rfl) ?_
    go_wp2_with (with_reducible (show wpList _ _ _ (Oper.mk none (.store 35 (.tmp 7) (.tmp 13)) _ _ _ _ :: _) _ _); refine still ?_)
    refine list_put wz B 35 el0.vals y.vals HHB.out rfl y.vals_one el_info rfl (.tmp 7) (.tmp 13) rfl rfl rfl (fun w3 h3 t3 => ?_)
    have T3 := Lib.hid (HT2.out.trans (HBB.out.turn.trans t3 (fun q hq e => by have := HBE.out; omega)) (fun _ _ => id))
    have c1 : w3.cell? ⟨B, 1, none⟩ = some (.int .u8 y.kind) := by rw [cell_of_row w3 B 1 _ 35 (0, 0) h3]; rfl
    clear h3 t3
    have hct := kcontains_any w3 K ks y.kind (HK.out.turn T3.out) hkl
    obtain ⟨C, hC⟩ : ∃ C, ks.contains y.kind = C := ⟨_, rfl⟩
    rw [hC] at hct
    have HC := Lib.hid hC
    have HCT := Lib.hid hct
    clear hC hct
    go_wp2_with (go_at_call 42; refine HCT.out.mono ?_; rintro r w4 ⟨rfl, rfl⟩)
    go_ret
    exact ⟨by rw [isB, HY.out]; show _ = Ending.returned (Value.bool (ks.contains y.kind)); rw [HC.out]; rfl, T3.out⟩
  · have HY := Lib.hid hy
    have HT2 := Lib.hid t2
    clear t2 hy
    have hbb := box_alloc w2 35 el0.vals
    obtain ⟨B, hB⟩ : ∃ B, w2.heap.size = B := ⟨_, rfl⟩
    obtain ⟨wz, hwz⟩ : ∃ wz, w2.alloc (.cells el0.vals.toArray 35) = wz := ⟨_, rfl⟩
    have hx0 : ∀ ev op, op.op = .alloc 35 → (execOp ev op).run Try.prog w2 = .ok (.value (.pointer (some ⟨B, 0, none⟩))) wz := fun ev op ho => by rw [← hwz, ← hB]; exact exec_zero24 ev op ho _
    rw [hwz] at hbb
    have hhh := hbb.heap
    rw [hB] at hhh
    have HX0 := Lib.hid hx0
    have HBB := Lib.hid hbb
    have HHB := Lib.hid hhh
    have HBE := Lib.hid hB
    clear hbb hB hwz hx0 hhh
    go_wp2_with (with_reducible (show wpList _ _ _ (Oper.mk (some 7) (.alloc 35) _ _ _ _ :: _) _ _); refine still ?_)
    refine list_exec rfl _ _ (HX0.out _ _ rfl) ?_
    go_wp2_with (with_reducible (show wpList _ _ _ (Oper.mk none (.store 35 (.tmp 7) (.tmp 13)) _ _ _ _ :: _) _ _); refine still ?_)
    refine list_put wz B 35 el0.vals el0.vals HHB.out rfl el0.vals_one el_info rfl (.tmp 7) (.tmp 13) rfl rfl rfl (fun w3 h3 t3 => ?_)
    have T3 := Lib.hid (HT2.out.trans (HBB.out.turn.trans t3 (fun q hq e => by have := HBE.out; omega)) (fun _ _ => id))
    have c1 : w3.cell? ⟨B, 1, none⟩ = some (.int .u8 el0.kind) := by rw [cell_of_row w3 B 1 _ 35 (0, 0) h3]; rfl
    clear h3 t3
    go_wp2_with fail
    go_ret
    exact ⟨by rw [isB, HY.out]; rfl, T3.out⟩

end Go.Proofs.Ytifhnidcodhoeaa
