/- Own contracts: rules 4 and 6. No statement is proved here. -/
import Derived.Test.YtifhnidcodhoeaaUc
namespace Go.Proofs.Ytifhnidcodhoeaa
set_option maxRecDepth 100000
open Go.RowKit
set_option linter.unusedVariables false
set_option linter.unusedSimpArgs false

theorem kr_alloc (w : World) (ks : List Int) : KR (w.alloc (.cells (ks.map (Value.int .u8)).toArray 5)) (.slice (some ⟨w.heap.size, 0, none⟩) ks.length ks.length) ks ∧ Turn (fun _ => False) w (w.alloc (.cells (ks.map (Value.int .u8)).toArray 5)) := by
  have hb := box_alloc w 5 (ks.map (Value.int .u8))
  exact ⟨⟨_, rfl, fun j hj => hb.cell j _ (by simp [List.getD, hj])⟩, hb.turn⟩
theorem isB_kind (l : List El) (nr : Int) (ks : List Int) (h0 : ks.contains 0 = false) : isB l nr ks = ks.contains (kindE l nr) := by
  unfold isB kindE
  cases atE l nr with
  | none => exact h0.symm
  | some y => rfl
theorem kindE_zero {l : List El} (hp : ∀ x ∈ l, 1 ≤ x.id) : kindE l 0 = 0 := by
  unfold kindE
  rw [atE_none (id := 0) (fun j hj e => by have := hp _ (getD_mem hj); omega)]
theorem b4_reg {l : List El} {x : El} (hp : ∀ x ∈ l, 1 ≤ x.id) (h : x.kind = 2) : b4 l x = !isB l x.par [1] := by
  unfold b4
  rw [if_pos h, isB_kind l _ [1] rfl]
  by_cases h0 : x.par = 0
  · rw [h0, kindE_zero hp]; rfl
  · have : (x.par == 0) = false := by simpa using h0
    rw [this, List.contains_cons, List.contains_nil, Bool.or_false]; rfl
theorem b4_other {l : List El} {x : El} (h : x.kind ≠ 2) : b4 l x = (x.par != 0 && !isB l x.par [1, 2]) := by
  unfold b4
  rw [if_neg h, isB_kind l _ [1, 2] rfl]
  simp only [List.contains_cons, List.contains_nil, Bool.or_false, bne]
  cases x.par == 0 <;> cases kindE l x.par == 1 <;> cases kindE l x.par == 2 <;> rfl
theorem b6_eq (l : List El) (x : El) : b6 l x = (x.kind == 5 && !(isB l x.frm [1] && isB l x.to [1, 3, 4])) := by
  unfold b6
  rw [isB_kind l _ [1] rfl, isB_kind l _ [1, 3, 4] rfl]
  simp only [List.contains_cons, List.contains_nil, Bool.or_false, bne]
  cases x.kind == 5 <;> cases kindE l x.frm == 1 <;> cases kindE l x.to == 1 <;> cases kindE l x.to == 3 <;> cases kindE l x.to == 4 <;> rfl
set_option maxHeartbeats 4000000 in
theorem astray_any (w : World) (v : Value) (l : List El) (x : El) (hv : RowV w v l) (hri : Rises l) (hps : ∀ x ∈ l, 1 ≤ x.id) (hb : l.length ≤ 1000) : Calls Try.prog 27 #[v, .agg x.vals.toArray] w fun r w' => r = .returned (.bool (b4 l x)) ∧ Turn (fun _ => False) w w' := by
  have HRI := Lib.hid hri
  have HPS := Lib.hid hps
  clear hri hps
  obtain ⟨la, lc, rfl⟩ := hv.form
  obtain ⟨n, hn⟩ : ∃ n, l.length = n := ⟨_, rfl⟩
  rw [hn] at hv hb
  simp only [hn]
  have HN := Lib.hid hn
  clear hn
  have hbx := box_alloc w 35 x.vals
  obtain ⟨X, hX⟩ : ∃ X, w.heap.size = X := ⟨_, rfl⟩
  obtain ⟨w1, hw1⟩ : ∃ w1, w.alloc (.cells x.vals.toArray 35) = w1 := ⟨_, rfl⟩
  rw [hw1] at hbx
  have hr := hbx.range
  rw [hX] at hr
  obtain ⟨c0, c1, c2, c3, c4, c5, c6, c7, c8, c9⟩ := cellsE hr
  simp only [Nat.zero_add] at c0 c1 c2 c3 c4 c5 c6 c7 c8 c9
  have T1 := Lib.hid hbx.turn
  have HR := Lib.hid hr
  have HV1 := Lib.hid (hv.turn hbx.turn (fun _ _ => id))
  clear hbx hr hv
  by_cases hk : x.kind = 2
  · have q2 : (x.kind == 2) = true := by simpa using hk
    have HB := Lib.hid (b4_reg HPS.out hk)
    clear hk
    have Ic := is_any _ _ _ l x.par [1] (HV1.out.turn (kr_alloc w1 [1]).2 (fun _ _ => id)) HRI.out (by rw [HN.out]; exact hb) (kr_alloc w1 [1]).1 (by decide)
    obtain ⟨I, Ih⟩ : ∃ I, isB l x.par [1] = I := ⟨_, rfl⟩
    rw [Ih] at Ic
    have IC := Lib.hid Ic
    have IH := Lib.hid Ih
    clear Ic Ih
    have HT := Lib.hid (kr_alloc w1 [1]).2
    go_enter Try.func27, Try.ntmps27
    go_wp2_with (go_at_call 38; refine IC.out.mono ?_; rintro r w8 ⟨rfl, t8⟩; (have T8 := Lib.hid (T1.out.trans (HT.out.trans t8 (fun _ _ => id)) (fun _ _ => id))); clear t8)
    go_ret
    exact ⟨by rw [HB.out, IH.out]; rfl, T8.out⟩
  · have q2 : (x.kind == 2) = false := by simpa using hk
    have HB := Lib.hid (b4_other (l := l) hk)
    clear hk
    by_cases h0 : x.par = 0
    · have q0 : (x.par != 0) = false := by simpa using h0
      have H0 := Lib.hid q0
      clear h0
      go_enter Try.func27, Try.ntmps27
      go_wp2_with fail
      go_ret
      exact ⟨by rw [HB.out, H0.out]; rfl, T1.out⟩
    · have q0 : (x.par != 0) = true := by simpa using h0
      have H0 := Lib.hid q0
      clear h0
      have Ic := is_any _ _ _ l x.par [1, 2] (HV1.out.turn (kr_alloc w1 [1, 2]).2 (fun _ _ => id)) HRI.out (by rw [HN.out]; exact hb) (kr_alloc w1 [1, 2]).1 (by decide)
      obtain ⟨I, Ih⟩ : ∃ I, isB l x.par [1, 2] = I := ⟨_, rfl⟩
      rw [Ih] at Ic
      have IC := Lib.hid Ic
      have IH := Lib.hid Ih
      clear Ic Ih
      have HT := Lib.hid (kr_alloc w1 [1, 2]).2
      go_enter Try.func27, Try.ntmps27
      go_wp2_with (go_at_call 38; refine IC.out.mono ?_; rintro r w8 ⟨rfl, t8⟩; (have T8 := Lib.hid (T1.out.trans (HT.out.trans t8 (fun _ _ => id)) (fun _ _ => id))); clear t8)
      go_ret
      exact ⟨by rw [HB.out, H0.out, IH.out]; rfl, T8.out⟩
set_option maxHeartbeats 4000000 in
theorem loose_any (w : World) (v : Value) (l : List El) (x : El) (hv : RowV w v l) (hri : Rises l) (hb : l.length ≤ 1000) : Calls Try.prog 29 #[v, .agg x.vals.toArray] w fun r w' => r = .returned (.bool (b6 l x)) ∧ Turn (fun _ => False) w w' := by
  have HRI := Lib.hid hri
  clear hri
  obtain ⟨la, lc, rfl⟩ := hv.form
  obtain ⟨n, hn⟩ : ∃ n, l.length = n := ⟨_, rfl⟩
  rw [hn] at hv hb
  simp only [hn]
  have HN := Lib.hid hn
  clear hn
  have hbx := box_alloc w 35 x.vals
  obtain ⟨X, hX⟩ : ∃ X, w.heap.size = X := ⟨_, rfl⟩
  obtain ⟨w1, hw1⟩ : ∃ w1, w.alloc (.cells x.vals.toArray 35) = w1 := ⟨_, rfl⟩
  rw [hw1] at hbx
  have hr := hbx.range
  rw [hX] at hr
  obtain ⟨c0, c1, c2, c3, c4, c5, c6, c7, c8, c9⟩ := cellsE hr
  simp only [Nat.zero_add] at c0 c1 c2 c3 c4 c5 c6 c7 c8 c9
  have T1 := Lib.hid hbx.turn
  have HR := Lib.hid hr
  have HV1 := Lib.hid (hv.turn hbx.turn (fun _ _ => id))
  clear hbx hr hv
  have HB := Lib.hid (b6_eq l x)
  by_cases hk : x.kind = 5
  case neg =>
    have q2 : (x.kind == 5) = false := by simpa using hk
    have HK := Lib.hid q2
    clear hk
    go_enter Try.func29, Try.ntmps29
    go_wp2_with fail
    go_ret
    exact ⟨by rw [HB.out, HK.out]; rfl, T1.out⟩
  have q2 : (x.kind == 5) = true := by simpa using hk
  have HK := Lib.hid q2
  clear hk
  have Ic := is_any _ _ _ l x.frm [1] (HV1.out.turn (kr_alloc w1 [1]).2 (fun _ _ => id)) HRI.out (by rw [HN.out]; exact hb) (kr_alloc w1 [1]).1 (by decide)
  obtain ⟨I, Ih⟩ : ∃ I, isB l x.frm [1] = I := ⟨_, rfl⟩
  rw [Ih] at Ic
  have IC := Lib.hid Ic
  have IH := Lib.hid Ih
  clear Ic Ih
  have HT := Lib.hid (kr_alloc w1 [1]).2
  go_enter Try.func29, Try.ntmps29
  go_wp2_with (go_at_call 38; refine IC.out.mono ?_; rintro r w9 ⟨rfl, t9'⟩; refine still ?_)
  unfold Still
  have t9 := HT.out.trans t9' (fun _ _ => id)
  clear t9'
  have T9 := Lib.hid (T1.out.trans t9 (fun _ _ => id))
  have HR9 := Lib.hid (rangeAt_turn HR.out t9 id)
  have HV9 := Lib.hid (HV1.out.turn t9 (fun _ _ => id))
  obtain ⟨e0, e1, e2, e3, e4, e5, e6, e7, e8, e9⟩ := cellsE HR9.out
  simp only [Nat.zero_add] at e0 e1 e2 e3 e4 e5 e6 e7 e8 e9
  clear t9
  cases I
  · go_wp2_with fail
    go_ret
    exact ⟨by rw [HB.out, HK.out, IH.out]; rfl, T9.out⟩
  have Jc := is_any _ _ _ l x.to [1, 3, 4] (HV9.out.turn (kr_alloc w9 [1, 3, 4]).2 (fun _ _ => id)) HRI.out (by rw [HN.out]; exact hb) (kr_alloc w9 [1, 3, 4]).1 (by decide)
  obtain ⟨J, Jh⟩ : ∃ I, isB l x.to [1, 3, 4] = I := ⟨_, rfl⟩
  rw [Jh] at Jc
  have JC := Lib.hid Jc
  have JH := Lib.hid Jh
  clear Jc Jh
  have HTJ := Lib.hid (kr_alloc w9 [1, 3, 4]).2
  go_wp2_with (go_at_call 38; refine JC.out.mono ?_; rintro r w8 ⟨rfl, t8⟩; (have T8 := Lib.hid (T9.out.trans (HTJ.out.trans t8 (fun _ _ => id)) (fun _ _ => id))); clear t8)
  go_ret
  exact ⟨by rw [HB.out, HK.out, IH.out, JH.out]; rfl, T8.out⟩

end Go.Proofs.Ytifhnidcodhoeaa
