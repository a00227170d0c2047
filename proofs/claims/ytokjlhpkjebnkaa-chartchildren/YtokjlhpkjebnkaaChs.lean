/- Own contracts: what the law of children does. No statement is proved here. -/
import Derived.Test.YtokjlhpkjebnkaaCh
namespace Go.Proofs.Ytokjlhpkjebnkaa
set_option maxRecDepth 100000
open Go.RowKit
set_option linter.unusedVariables false
set_option linter.unusedSimpArgs false


def mod4 (p : Int) : Int := wrap64 ((IntKind.u64.wrap p).tmod 4)
def El.mod (x : El) : El := { x with par := mod4 x.par }
def modTo (C : List El) (k : Nat) : List El := (C.take k).map El.mod ++ C.drop k
theorem modTo_len (C : List El) (k : Nat) : (modTo C k).length = C.length := by unfold modTo; simp; omega
theorem modTo_at (C : List El) (k : Nat) (hk : k < C.length) : (modTo C k).getD k el0 = C.getD k el0 := by
  have h1 : ((C.take k).map El.mod).length = k := by rw [List.length_map, List.length_take]; omega
  unfold modTo
  rw [List.getD_eq_getElem?_getD, List.getElem?_append_right (by omega), h1, Nat.sub_self, List.getElem?_drop, List.getD_eq_getElem?_getD, Nat.add_zero]
theorem modTo_succ (C : List El) (k : Nat) (hk : k < C.length) : (modTo C k).set k { (modTo C k).getD k el0 with par := mod4 (C.getD k el0).par } = modTo C (k + 1) := by
  rw [modTo_at C k hk]
  have e : C[k] = C.getD k el0 := by simp [List.getD, hk]
  unfold modTo
  rw [List.take_succ_eq_append_getElem hk, List.map_append, List.set_append_right _ _ (by simp; omega)]
  have h0 : k - ((C.take k).map El.mod).length = 0 := by simp; omega
  rw [h0, List.drop_eq_getElem_cons hk, List.set_cons_zero, e]
  simp [El.mod]
set_option maxHeartbeats 16000000 in
theorem children_law (w : World) (v : Value) (l : List El) (nr : Int) (near : Bool) (hv : RowV w v l) (hall : ∀ x ∈ l, x.Ok) (hnr : -9223372036854775808 ≤ nr ∧ nr < 9223372036854775808) (hl : l.length ≤ 9223372036854775807) : Calls Try.prog 5 #[v, .int .i64 nr, .bool near] w fun r w' => r = .returned (.bool true) ∧ Turn (fun _ => False) w w' := by
  obtain ⟨la, lc, rfl⟩ := hv.form
  obtain ⟨n, hn⟩ : ∃ n, l.length = n := ⟨_, rfl⟩
  rw [hn] at hv hl
  simp only [hn]
  have HV := Lib.hid hv
  have HN := Lib.hid hn
  have HALL := Lib.hid hall
  clear hv hn hall
  go_enter Try.func5, Try.ntmps5
  go_wp2_with fail
  refine (awake09 w).mono ?_
  rintro r w2 ⟨rfl, t2⟩
  have T2 := Lib.hid t2
  clear t2
  by_cases hbig : 30 < n
  · have d0 : decide (30 < (n : Int)) = true := decide_eq_true (by omega)
    go_wp2_with fail
    refine (awake09 w2).mono ?_
    rintro r w3 ⟨rfl, t3⟩
    have T3 := Lib.hid (T2.out.trans t3 (fun _ _ => id))
    clear t3
    go_wp2_with fail
    go_ret
    exact ⟨rfl, T3.out⟩
  have d0 : decide (30 < (n : Int)) = false := decide_eq_false (by omega)
  go_wp2_with fail
  refine (rise_any w2 _ l (HV.out.turn T2.out (fun _ _ => id)) (by rw [HN.out]; omega)).mono ?_
  rintro r w3 ⟨vc, rfl, ho3, t3⟩
  obtain ⟨ca, cc, hvc⟩ := own_slice24 ho3
  subst hvc
  obtain ⟨C, hC⟩ : ∃ C, riseE l = C := ⟨_, rfl⟩
  have hlen := riseE_len l
  have hmem := riseE_mem l
  rw [hC] at ho3 hlen hmem
  rw [hC]
  obtain ⟨m, hm⟩ : ∃ m, C.length = m := ⟨_, rfl⟩
  have hok : ∀ x ∈ C, I64 x.par := fun x hx => (HALL.out x (hmem x hx)).par
  rw [hm] at ho3 ⊢
  have hm30 : m ≤ 30 := by have := HN.out; omega
  have HO3 := Lib.hid ho3
  have HCL := Lib.hid hm
  have HOK := Lib.hid hok
  have T3 := Lib.hid (T2.out.trans t3 (fun _ _ => id))
  have U3 := Lib.hid T2.out.size
  clear ho3 t3 hlen hm hC hok hmem
  cases near
  · go_wp2_with fail
    refine wp_loop_rounds 1 ?_
    rw [rounds_succ]
    have HDL := HCL
    obtain ⟨NR, hNR⟩ : ∃ NR, nr = NR := ⟨_, rfl⟩
    subst hNR
    have HRW := Lib.hid (own_rowV (l := C) (by rw [HDL.out]; exact HO3.out))
    go_wp2_with fail
    refine (children_any w3 _ C nr HRW.out (by rw [HDL.out]; omega)).mono ?_
    rintro r w5 ⟨vg, rfl, ho5, t5⟩
    have HO5 := Lib.hid ho5
    have HT5 := Lib.hid (T3.out.trans t5 (fun _ _ => id))
    have HR5 := Lib.hid (HRW.out.turn t5 (fun _ _ => id))
    obtain ⟨ga, gc, hvg⟩ := own_slice3 ho5
    subst hvg
    obtain ⟨L, hL⟩ : ∃ L, (childE C nr).length = L := ⟨_, rfl⟩
    rw [hL] at HO5 ⊢
    have HL := Lib.hid hL
    have hLm := childE_len C nr
    rw [hL, HDL.out] at hLm
    clear ho5 t5 hL
    go_wp2_with fail
    go_loopw [10, 11] (fun nv iv wr => ∃ k : Nat, k ≤ m ∧ iv = .int .i64 (k : Int) ∧ nv = .int .i64 ((childE ((C).take k) nr).length : Int) ∧ Turn (fun _ => False) w5 wr) (fun _ iv _ => m - (intOf iv).toNat)
    case atStart => exact ⟨0, Nat.zero_le _, rfl, rfl, Turn.refl _ _⟩
    case round =>
      obtain ⟨k, hk, rfl, rfl, htr⟩ := hrel
      have HTR2 := Lib.hid htr
      clear htr
      by_cases hlt : k < m
      · have hkl : k < (C).length := by rw [HDL.out]; exact hlt
        have hsn := childE_snoc ((C).take k) ((C).getD k el0) nr
        rw [← take_snoc _ k hkl] at hsn
        have hat := fun h => childE_at hkl (nr := nr) h
        obtain ⟨g, o, hga, hc, hs1⟩ := (HR5.out.turn HTR2.out (fun _ _ => id)).one HDL.out k hlt
        have gk : (0 : Int) ≤ (k : Int) ∧ (k : Int) < (m : Int) := by omega
        obtain ⟨q, hq⟩ : ∃ q, (childE ((C).take k) nr).length = q := ⟨_, rfl⟩
        obtain ⟨x, hx⟩ : ∃ x, (C).getD k el0 = x := ⟨_, rfl⟩
        rw [hq] at hat ⊢
        rw [hx] at hsn hat hs1
        have HSN := Lib.hid hsn
        have HAT := Lib.hid hat
        have HQ := Lib.hid hq
        have hql : q ≤ k := by rw [← hq]; exact Nat.le_trans (childE_len _ _) (List.length_take_le _ _)
        have c0 := hs1 0 _ rfl
        have c2 := hs1 2 _ rfl
        rw [Nat.add_zero] at c0
        subst hga
        clear hsn hat hq hx hs1 hkl
        by_cases he : x.par = nr
        · have d1 : (x.par == nr) = true := by simpa using he
          obtain ⟨hqL, hqv⟩ := HAT.out he
          rw [HL.out] at hqL
          have HE := Lib.hid he
          obtain ⟨g2, hg2, hcv⟩ : ∃ g2, ga = some ⟨g2, 0, none⟩ ∧ wr.cell? ⟨g2, q, none⟩ = some (.int .i64 x.id) := by
            have h5 := HTR2.out.owns HO5.out (fun _ _ => id)
            rcases h5.2 with ⟨h1, h2⟩ | ⟨g2, cap2, cur, h1, _⟩
            · omega
            · injection h1 with q1 q2 q3
              refine ⟨g2, q1, ?_⟩
              have h6 := h5
              rw [q1, q3] at h6
              have h7 := h6.cellAt q (by omega)
              rw [h7]
              have h8 : (childE C nr)[q]? = some x.id := by
                rw [← hqv]
                simp [List.getD, show q < (childE C nr).length by rw [HL.out]; exact hqL]
              simp [h8]
          have dq : decide ((L : Int) ≤ (q : Int)) = false := decide_eq_false (by omega)
          have gq : (0 : Int) ≤ (q : Int) ∧ (q : Int) < (L : Int) := by omega
          have dx : (x.id != x.id) = false := by simp
          subst hg2
          clear he hqv
          go_wp2_with fail
          refine wp_region_held_drew (S := fun wq => wq.cell? ⟨g2, q, none⟩ = some (.int .i64 x.id) ∧ wq.cell? ⟨g, o + k * 10, none⟩ = some (.int .i64 x.id)) (by kernel_rfl) ⟨hcv, c0⟩ (fun hHeld => ?_)
          refine wpAnyH_take (i := 0) (v := .int .i64 (q : Int)) rfl (by kernel_rfl) (by kernel_rfl) (by kernel_rfl) (fun _ _ _ h => h) (Or.inl ⟨by rfl, ?yq33⟩) (by assumption) ?rq33
          case yq33 => (intro wq hSw; (try simp only [List.getElem_toArray, List.getElem_cons_zero, List.getElem_cons_succ]); go_simp; (try with_reducible rfl); all_goals (try omega))
          case rq33 =>
          try simp only [Act.put, List.setIfInBounds_toArray, List.set_cons_zero, List.set_cons_succ, List.getElem_toArray, List.getElem_cons_zero, List.getElem_cons_succ]
          refine wpAnyH_take (i := 1) (v := .slice (some ⟨g2, 0, none⟩) L gc) rfl (by kernel_rfl) (by kernel_rfl) (by kernel_rfl) (fun _ _ _ h => h) (Or.inl ⟨by rfl, ?yq34⟩) (by assumption) ?rq34
          case yq34 => (intro wq hSw; (try simp only [List.getElem_toArray, List.getElem_cons_zero, List.getElem_cons_succ]); go_simp; (try with_reducible rfl); all_goals (try omega))
          case rq34 =>
          try simp only [Act.put, List.setIfInBounds_toArray, List.set_cons_zero, List.set_cons_succ, List.getElem_toArray, List.getElem_cons_zero, List.getElem_cons_succ]
          refine wpAnyH_take (i := 2) (v := .int .i64 (L : Int)) rfl (by kernel_rfl) (by kernel_rfl) (by kernel_rfl) (fun _ _ _ h => h) (Or.inl ⟨by rfl, ?yq35⟩) (by assumption) ?rq35
          case yq35 => (intro wq hSw; (try simp only [List.getElem_toArray, List.getElem_cons_zero, List.getElem_cons_succ]); go_simp; (try with_reducible rfl); all_goals (try omega))
          case rq35 =>
          try simp only [Act.put, List.setIfInBounds_toArray, List.set_cons_zero, List.set_cons_succ, List.getElem_toArray, List.getElem_cons_zero, List.getElem_cons_succ]
          refine wpAnyH_take (i := 3) (v := .bool false) rfl (by kernel_rfl) (by kernel_rfl) (by kernel_rfl) (fun _ _ _ h => h) (Or.inl ⟨by rfl, ?yq36⟩) (by assumption) ?rq36
          case yq36 => (intro wq hSw; (try simp only [List.getElem_toArray, List.getElem_cons_zero, List.getElem_cons_succ]); go_simp; (try with_reducible rfl); all_goals (try omega))
          case rq36 =>
          try simp only [Act.put, List.setIfInBounds_toArray, List.set_cons_zero, List.set_cons_succ, List.getElem_toArray, List.getElem_cons_zero, List.getElem_cons_succ]
          refine wpAnyH_take (i := 4) (v := .bool false) rfl (by kernel_rfl) (by kernel_rfl) (by kernel_rfl) (fun _ _ _ h => h) (Or.inl ⟨by rfl, ?yq37⟩) (by assumption) ?rq37
          case yq37 => (intro wq hSw; (try simp only [List.getElem_toArray, List.getElem_cons_zero, List.getElem_cons_succ]); go_simp; (try with_reducible rfl); all_goals (try omega))
          case rq37 =>
          try simp only [Act.put, List.setIfInBounds_toArray, List.set_cons_zero, List.set_cons_succ, List.getElem_toArray, List.getElem_cons_zero, List.getElem_cons_succ]
          refine wpAnyH_take (i := 5) (v := .slice (some ⟨g2, 0, none⟩) L gc) rfl (by kernel_rfl) (by kernel_rfl) (by kernel_rfl) (fun _ _ _ h => h) (Or.inl ⟨by rfl, ?yq38⟩) (by assumption) ?rq38
          case yq38 => (intro wq hSw; (try simp only [List.getElem_toArray, List.getElem_cons_zero, List.getElem_cons_succ]); go_simp; (try with_reducible rfl); all_goals (try omega))
          case rq38 =>
          try simp only [Act.put, List.setIfInBounds_toArray, List.set_cons_zero, List.set_cons_succ, List.getElem_toArray, List.getElem_cons_zero, List.getElem_cons_succ]
          refine wpAnyH_take (i := 6) (v := .int .i64 (q : Int)) rfl (by kernel_rfl) (by kernel_rfl) (by kernel_rfl) (fun _ _ _ h => h) (Or.inl ⟨by rfl, ?yq39⟩) (by assumption) ?rq39
          case yq39 => (intro wq hSw; (try simp only [List.getElem_toArray, List.getElem_cons_zero, List.getElem_cons_succ]); go_simp; (try with_reducible rfl); all_goals (try omega))
          case rq39 =>
          try simp only [Act.put, List.setIfInBounds_toArray, List.set_cons_zero, List.set_cons_succ, List.getElem_toArray, List.getElem_cons_zero, List.getElem_cons_succ]
          refine wpAnyH_take (i := 7) (v := .pointer (some ⟨g2, q, none⟩)) rfl (by kernel_rfl) (by kernel_rfl) (by kernel_rfl) (fun _ _ _ h => h) (Or.inl ⟨by rfl, ?yq40⟩) (by assumption) ?rq40
          case yq40 => (intro wq hSw; (try simp only [List.getElem_toArray, List.getElem_cons_zero, List.getElem_cons_succ]); go_simp; (try with_reducible rfl); all_goals (try omega))
          case rq40 =>
          try simp only [Act.put, List.setIfInBounds_toArray, List.set_cons_zero, List.set_cons_succ, List.getElem_toArray, List.getElem_cons_zero, List.getElem_cons_succ]
          refine wpAnyH_take (i := 8) (v := .int .i64 x.id) rfl (by kernel_rfl) (by kernel_rfl) (by kernel_rfl) (fun _ _ _ h => h) (Or.inl ⟨by rfl, ?yq41⟩) (by assumption) ?rq41
          case yq41 => (intro wq hSw; obtain ⟨k1, k2⟩ := hSw; (try simp only [List.getElem_toArray, List.getElem_cons_zero, List.getElem_cons_succ]); go_simp; (try with_reducible rfl); all_goals (try omega))
          case rq41 =>
          try simp only [Act.put, List.setIfInBounds_toArray, List.set_cons_zero, List.set_cons_succ, List.getElem_toArray, List.getElem_cons_zero, List.getElem_cons_succ]
          refine wpAnyH_take (i := 9) (v := .slice (some ⟨g, o, none⟩) m cc) rfl (by kernel_rfl) (by kernel_rfl) (by kernel_rfl) (fun _ _ _ h => h) (Or.inl ⟨by rfl, ?yq42⟩) (by assumption) ?rq42
          case yq42 => (intro wq hSw; (try simp only [List.getElem_toArray, List.getElem_cons_zero, List.getElem_cons_succ]); go_simp; (try with_reducible rfl); all_goals (try omega))
          case rq42 =>
          try simp only [Act.put, List.setIfInBounds_toArray, List.set_cons_zero, List.set_cons_succ, List.getElem_toArray, List.getElem_cons_zero, List.getElem_cons_succ]
          refine wpAnyH_take (i := 10) (v := .int .i64 (k : Int)) rfl (by kernel_rfl) (by kernel_rfl) (by kernel_rfl) (fun _ _ _ h => h) (Or.inl ⟨by rfl, ?yq43⟩) (by assumption) ?rq43
          case yq43 => (intro wq hSw; (try simp only [List.getElem_toArray, List.getElem_cons_zero, List.getElem_cons_succ]); go_simp; (try with_reducible rfl); all_goals (try omega))
          case rq43 =>
          try simp only [Act.put, List.setIfInBounds_toArray, List.set_cons_zero, List.set_cons_succ, List.getElem_toArray, List.getElem_cons_zero, List.getElem_cons_succ]
          refine wpAnyH_take (i := 11) (v := .pointer (some ⟨g, o + k * 10, none⟩)) rfl (by kernel_rfl) (by kernel_rfl) (by kernel_rfl) (fun _ _ _ h => h) (Or.inl ⟨by rfl, ?yq44⟩) (by assumption) ?rq44
          case yq44 => (intro wq hSw; (try simp only [List.getElem_toArray, List.getElem_cons_zero, List.getElem_cons_succ]); go_simp; (try with_reducible rfl); all_goals (try omega))
          case rq44 =>
          try simp only [Act.put, List.setIfInBounds_toArray, List.set_cons_zero, List.set_cons_succ, List.getElem_toArray, List.getElem_cons_zero, List.getElem_cons_succ]
          refine wpAnyH_take (i := 12) (v := .pointer (some ⟨g, o + k * 10, none⟩)) rfl (by kernel_rfl) (by kernel_rfl) (by kernel_rfl) (fun _ _ _ h => h) (Or.inl ⟨by rfl, ?yq45⟩) (by assumption) ?rq45
          case yq45 => (intro wq hSw; (try simp only [List.getElem_toArray, List.getElem_cons_zero, List.getElem_cons_succ]); go_simp; (try with_reducible rfl); all_goals (try omega))
          case rq45 =>
          try simp only [Act.put, List.setIfInBounds_toArray, List.set_cons_zero, List.set_cons_succ, List.getElem_toArray, List.getElem_cons_zero, List.getElem_cons_succ]
          refine wpAnyH_take (i := 13) (v := .int .i64 x.id) rfl (by kernel_rfl) (by kernel_rfl) (by kernel_rfl) (fun _ _ _ h => h) (Or.inl ⟨by rfl, ?yq46⟩) (by assumption) ?rq46
          case yq46 => (intro wq hSw; obtain ⟨k1, k2⟩ := hSw; (try simp only [List.getElem_toArray, List.getElem_cons_zero, List.getElem_cons_succ]); go_simp; (try with_reducible rfl); all_goals (try omega))
          case rq46 =>
          try simp only [Act.put, List.setIfInBounds_toArray, List.set_cons_zero, List.set_cons_succ, List.getElem_toArray, List.getElem_cons_zero, List.getElem_cons_succ]
          refine wpAnyH_take (i := 14) (v := .bool false) rfl (by kernel_rfl) (by kernel_rfl) (by kernel_rfl) (fun _ _ _ h => h) (Or.inl ⟨by rfl, ?yq47⟩) (by assumption) ?rq47
          case yq47 => (intro wq hSw; (try simp only [List.getElem_toArray, List.getElem_cons_zero, List.getElem_cons_succ]); go_simp; (try with_reducible rfl); all_goals (try omega))
          case rq47 =>
          try simp only [Act.put, List.setIfInBounds_toArray, List.set_cons_zero, List.set_cons_succ, List.getElem_toArray, List.getElem_cons_zero, List.getElem_cons_succ]
          refine wpAnyH_take (i := 15) (v := .bool false) rfl (by kernel_rfl) (by kernel_rfl) (by kernel_rfl) (fun _ _ _ h => h) (Or.inl ⟨by rfl, ?yq48⟩) (by assumption) ?rq48
          case yq48 => (intro wq hSw; (try simp only [List.getElem_toArray, List.getElem_cons_zero, List.getElem_cons_succ]); go_simp; (try with_reducible rfl); all_goals (try omega))
          case rq48 =>
          try simp only [Act.put, List.setIfInBounds_toArray, List.set_cons_zero, List.set_cons_succ, List.getElem_toArray, List.getElem_cons_zero, List.getElem_cons_succ]
          refine wpAnyH_done (by kernel_rfl) ?_ _
          clear hHeld c0 c2 hcv dq dx
          go_wp2_with fail
          go_roundw
          case rel => exact ⟨k + 1, by omega, by go_num, by rw [HSN.out, if_pos HE.out, List.length_append, HQ.out]; go_num, HTR2.out.drew⟩
          case measure => simp [intOf]; omega
        · have d1 : (x.par == nr) = false := by simpa using he
          have HE := Lib.hid he
          clear he
          go_wp2_with fail
          go_roundw
          case rel => exact ⟨k + 1, by omega, by go_num, by rw [HSN.out, if_neg HE.out, HQ.out], HTR2.out⟩
          case measure => simp [intOf]; omega
      · have hke2 : (C).take k = C := List.take_of_length_le (by rw [HDL.out]; omega)
        rw [hke2, HL.out]
        clear hke2
        have dz : ((L : Int) == (L : Int)) = true := by simp
        go_wp2_with fail
        go_ret
        exact ⟨by first | rfl | simp, HT5.out.trans HTR2.out (fun _ _ => id)⟩
  · go_wp2_with fail
    go_loopw [8] (fun iv wr => ∃ k : Nat, k ≤ m ∧ iv = .int .i64 (k : Int) ∧ wr.ownsRow w2.heap.size 24 10 (.slice ca m cc) m (elsV (modTo C k)) ∧ Turn (fun _ => False) w wr) (fun iv _ => m - (intOf iv).toNat)
    case atStart => exact ⟨0, Nat.zero_le _, rfl, by simpa [modTo] using HO3.out, T3.out⟩
    case round =>
      obtain ⟨k, hk, rfl, ho, htr⟩ := hrel
      have HO := Lib.hid ho
      have HTR := Lib.hid htr
      clear ho htr
      by_cases hlt : k < m
      · have hkl : k < C.length := by rw [HCL.out]; exact hlt
        have hcx : I64 (C.getD k el0).par := HOK.out _ (getD_mem hkl)
        have hml := modTo_len C k
        obtain ⟨g, o, hga, hc, hs1⟩ := (own_rowV (l := modTo C k) (by rw [hml, HCL.out]; exact HO.out)).one (by rw [hml, HCL.out]) k hlt
        rw [modTo_at C k hkl] at hs1
        obtain ⟨o0, rfl⟩ : ∃ q, q = o := ⟨_, rfl⟩
        have hg0 : ca = some ⟨g, 0, none⟩ := by
          rcases HO.out.2 with ⟨h1, h2⟩ | ⟨g', cap', cur, h1, _⟩
          · injection h1 with q1 q2 q3; omega
          · injection h1 with q1 q2 q3
            rw [q1] at hga
            injection hga with hga
            injection hga with h2 h3 _
            rw [q1, h2]
        rw [hga] at hg0
        injection hg0 with hg0
        injection hg0 with _ hoo _
        subst hga
        subst hoo
        obtain ⟨hs2, hfz⟩ := own_setPar HO.out (by rw [hml, HCL.out]) k hlt (mod4 (C.getD k el0).par)
        rw [modTo_succ C k hkl] at hs2
        have c2 : wr.cell? ⟨g, k * 10 + 2, none⟩ = some (.int .i64 (C.getD k el0).par) := by have := hs1 2 _ rfl; rwa [Nat.zero_add] at this
        have gk : (0 : Int) ≤ (k : Int) ∧ (k : Int) < (m : Int) := by omega
        obtain ⟨wn, hwn⟩ : ∃ wn, wr.setCell ⟨g, k * 10 + 2, none⟩ (.int .i64 (mod4 (C.getD k el0).par)) = wn := ⟨_, rfl⟩
        have tn : Turn (fun q => q = g) wr (wr.setCell ⟨g, k * 10 + 2, none⟩ (.int .i64 (mod4 (C.getD k el0).par))) := (Turn.refl (fun q => q = g) wr).setCell (p := ⟨g, k * 10 + 2, none⟩) (fun _ => rfl) _
        have hgl := HO.out.lt g rfl
        rw [hwn] at hs2 tn
        have HS2 := Lib.hid hs2
        have HTN := Lib.hid (HTR.out.trans tn (fun q hq e => by have := U3.out; omega))
        obtain ⟨p, hp⟩ : ∃ p, (C.getD k el0).par = p := ⟨_, rfl⟩
        rw [hp] at c2 hwn hcx
        unfold mod4 at hwn
        unfold I64 at hcx
        clear hs1 hs2 tn hml hkl hp hgl
        go_wp2_with fail
        go_roundw
        case rel => exact ⟨k + 1, by omega, by go_num, HS2.out, HTN.out⟩
        case measure => simp [intOf]; omega
      · have hke : k = m := by omega
        have hmt : modTo C k = C.map El.mod := by unfold modTo; rw [List.take_of_length_le (by rw [HCL.out]; omega), List.drop_of_length_le (by rw [HCL.out]; omega), List.append_nil]
        have HMT := Lib.hid hmt
        clear hmt
        have HO4 := Lib.hid (show wr.ownsRow w2.heap.size 24 10 (.slice ca m cc) m (elsV (C.map El.mod)) from by rw [← HMT.out]; exact HO.out)
        have HDL := Lib.hid (show (C.map El.mod).length = m from by rw [List.length_map]; exact HCL.out)
        obtain ⟨NR, hNR⟩ : ∃ NR, wrap64 ((IntKind.u64.wrap nr).tmod 4) = NR := ⟨_, rfl⟩
        have HRW := Lib.hid (own_rowV (l := (C.map El.mod)) (by rw [HDL.out]; exact HO4.out))
        go_wp2_with fail
        refine (children_any wr _ (C.map El.mod) NR HRW.out (by rw [HDL.out]; omega)).mono ?_
        rintro r w5 ⟨vg, rfl, ho5, t5⟩
        have HO5 := Lib.hid ho5
        have HT5 := Lib.hid (HTR.out.trans t5 (fun _ _ => id))
        have HR5 := Lib.hid (HRW.out.turn t5 (fun _ _ => id))
        obtain ⟨ga, gc, hvg⟩ := own_slice3 ho5
        subst hvg
        obtain ⟨L, hL⟩ : ∃ L, (childE (C.map El.mod) NR).length = L := ⟨_, rfl⟩
        rw [hL] at HO5 ⊢
        have HL := Lib.hid hL
        have hLm := childE_len (C.map El.mod) NR
        rw [hL, HDL.out] at hLm
        clear ho5 t5 hL
        go_wp2_with fail
        go_loopw [10, 11] (fun nv iv wr => ∃ k : Nat, k ≤ m ∧ iv = .int .i64 (k : Int) ∧ nv = .int .i64 ((childE (((C.map El.mod)).take k) NR).length : Int) ∧ Turn (fun _ => False) w5 wr) (fun _ iv _ => m - (intOf iv).toNat)
        case atStart => exact ⟨0, Nat.zero_le _, rfl, rfl, Turn.refl _ _⟩
        case round =>
          obtain ⟨k, hk, rfl, rfl, htr⟩ := hrel
          have HTR2 := Lib.hid htr
          clear htr
          by_cases hlt : k < m
          · have hkl : k < ((C.map El.mod)).length := by rw [HDL.out]; exact hlt
            have hsn := childE_snoc (((C.map El.mod)).take k) (((C.map El.mod)).getD k el0) NR
            rw [← take_snoc _ k hkl] at hsn
            have hat := fun h => childE_at hkl (nr := NR) h
            obtain ⟨g, o, hga, hc, hs1⟩ := (HR5.out.turn HTR2.out (fun _ _ => id)).one HDL.out k hlt
            have gk : (0 : Int) ≤ (k : Int) ∧ (k : Int) < (m : Int) := by omega
            obtain ⟨q, hq⟩ : ∃ q, (childE (((C.map El.mod)).take k) NR).length = q := ⟨_, rfl⟩
            obtain ⟨x, hx⟩ : ∃ x, ((C.map El.mod)).getD k el0 = x := ⟨_, rfl⟩
            rw [hq] at hat ⊢
            rw [hx] at hsn hat hs1
            have HSN := Lib.hid hsn
            have HAT := Lib.hid hat
            have HQ := Lib.hid hq
            have hql : q ≤ k := by rw [← hq]; exact Nat.le_trans (childE_len _ _) (List.length_take_le _ _)
            have c0 := hs1 0 _ rfl
            have c2 := hs1 2 _ rfl
            rw [Nat.add_zero] at c0
            subst hga
            clear hsn hat hq hx hs1 hkl
            by_cases he : x.par = NR
            · have d1 : (x.par == NR) = true := by simpa using he
              obtain ⟨hqL, hqv⟩ := HAT.out he
              rw [HL.out] at hqL
              have HE := Lib.hid he
              obtain ⟨g2, hg2, hcv⟩ : ∃ g2, ga = some ⟨g2, 0, none⟩ ∧ wr.cell? ⟨g2, q, none⟩ = some (.int .i64 x.id) := by
                have h5 := HTR2.out.owns HO5.out (fun _ _ => id)
                rcases h5.2 with ⟨h1, h2⟩ | ⟨g2, cap2, cur, h1, _⟩
                · omega
                · injection h1 with q1 q2 q3
                  refine ⟨g2, q1, ?_⟩
                  have h6 := h5
                  rw [q1, q3] at h6
                  have h7 := h6.cellAt q (by omega)
                  rw [h7]
                  have h8 : (childE (C.map El.mod) NR)[q]? = some x.id := by
                    rw [← hqv]
                    simp [List.getD, show q < (childE (C.map El.mod) NR).length by rw [HL.out]; exact hqL]
                  simp [h8]
              have dq : decide ((L : Int) ≤ (q : Int)) = false := decide_eq_false (by omega)
              have gq : (0 : Int) ≤ (q : Int) ∧ (q : Int) < (L : Int) := by omega
              have dx : (x.id != x.id) = false := by simp
              subst hg2
              clear he hqv
              go_wp2_with fail
              refine wp_region_held_drew (S := fun wq => wq.cell? ⟨g2, q, none⟩ = some (.int .i64 x.id) ∧ wq.cell? ⟨g, o + k * 10, none⟩ = some (.int .i64 x.id)) (by kernel_rfl) ⟨hcv, c0⟩ (fun hHeld => ?_)
              refine wpAnyH_take (i := 0) (v := .int .i64 (q : Int)) rfl (by kernel_rfl) (by kernel_rfl) (by kernel_rfl) (fun _ _ _ h => h) (Or.inl ⟨by rfl, ?yq49⟩) (by assumption) ?rq49
              case yq49 => (intro wq hSw; (try simp only [List.getElem_toArray, List.getElem_cons_zero, List.getElem_cons_succ]); go_simp; (try with_reducible rfl); all_goals (try omega))
              case rq49 =>
              try simp only [Act.put, List.setIfInBounds_toArray, List.set_cons_zero, List.set_cons_succ, List.getElem_toArray, List.getElem_cons_zero, List.getElem_cons_succ]
              refine wpAnyH_take (i := 1) (v := .slice (some ⟨g2, 0, none⟩) L gc) rfl (by kernel_rfl) (by kernel_rfl) (by kernel_rfl) (fun _ _ _ h => h) (Or.inl ⟨by rfl, ?yq50⟩) (by assumption) ?rq50
              case yq50 => (intro wq hSw; (try simp only [List.getElem_toArray, List.getElem_cons_zero, List.getElem_cons_succ]); go_simp; (try with_reducible rfl); all_goals (try omega))
              case rq50 =>
              try simp only [Act.put, List.setIfInBounds_toArray, List.set_cons_zero, List.set_cons_succ, List.getElem_toArray, List.getElem_cons_zero, List.getElem_cons_succ]
              refine wpAnyH_take (i := 2) (v := .int .i64 (L : Int)) rfl (by kernel_rfl) (by kernel_rfl) (by kernel_rfl) (fun _ _ _ h => h) (Or.inl ⟨by rfl, ?yq51⟩) (by assumption) ?rq51
              case yq51 => (intro wq hSw; (try simp only [List.getElem_toArray, List.getElem_cons_zero, List.getElem_cons_succ]); go_simp; (try with_reducible rfl); all_goals (try omega))
              case rq51 =>
              try simp only [Act.put, List.setIfInBounds_toArray, List.set_cons_zero, List.set_cons_succ, List.getElem_toArray, List.getElem_cons_zero, List.getElem_cons_succ]
              refine wpAnyH_take (i := 3) (v := .bool false) rfl (by kernel_rfl) (by kernel_rfl) (by kernel_rfl) (fun _ _ _ h => h) (Or.inl ⟨by rfl, ?yq52⟩) (by assumption) ?rq52
              case yq52 => (intro wq hSw; (try simp only [List.getElem_toArray, List.getElem_cons_zero, List.getElem_cons_succ]); go_simp; (try with_reducible rfl); all_goals (try omega))
              case rq52 =>
              try simp only [Act.put, List.setIfInBounds_toArray, List.set_cons_zero, List.set_cons_succ, List.getElem_toArray, List.getElem_cons_zero, List.getElem_cons_succ]
              refine wpAnyH_take (i := 4) (v := .bool false) rfl (by kernel_rfl) (by kernel_rfl) (by kernel_rfl) (fun _ _ _ h => h) (Or.inl ⟨by rfl, ?yq53⟩) (by assumption) ?rq53
              case yq53 => (intro wq hSw; (try simp only [List.getElem_toArray, List.getElem_cons_zero, List.getElem_cons_succ]); go_simp; (try with_reducible rfl); all_goals (try omega))
              case rq53 =>
              try simp only [Act.put, List.setIfInBounds_toArray, List.set_cons_zero, List.set_cons_succ, List.getElem_toArray, List.getElem_cons_zero, List.getElem_cons_succ]
              refine wpAnyH_take (i := 5) (v := .slice (some ⟨g2, 0, none⟩) L gc) rfl (by kernel_rfl) (by kernel_rfl) (by kernel_rfl) (fun _ _ _ h => h) (Or.inl ⟨by rfl, ?yq54⟩) (by assumption) ?rq54
              case yq54 => (intro wq hSw; (try simp only [List.getElem_toArray, List.getElem_cons_zero, List.getElem_cons_succ]); go_simp; (try with_reducible rfl); all_goals (try omega))
              case rq54 =>
              try simp only [Act.put, List.setIfInBounds_toArray, List.set_cons_zero, List.set_cons_succ, List.getElem_toArray, List.getElem_cons_zero, List.getElem_cons_succ]
              refine wpAnyH_take (i := 6) (v := .int .i64 (q : Int)) rfl (by kernel_rfl) (by kernel_rfl) (by kernel_rfl) (fun _ _ _ h => h) (Or.inl ⟨by rfl, ?yq55⟩) (by assumption) ?rq55
              case yq55 => (intro wq hSw; (try simp only [List.getElem_toArray, List.getElem_cons_zero, List.getElem_cons_succ]); go_simp; (try with_reducible rfl); all_goals (try omega))
              case rq55 =>
              try simp only [Act.put, List.setIfInBounds_toArray, List.set_cons_zero, List.set_cons_succ, List.getElem_toArray, List.getElem_cons_zero, List.getElem_cons_succ]
              refine wpAnyH_take (i := 7) (v := .pointer (some ⟨g2, q, none⟩)) rfl (by kernel_rfl) (by kernel_rfl) (by kernel_rfl) (fun _ _ _ h => h) (Or.inl ⟨by rfl, ?yq56⟩) (by assumption) ?rq56
              case yq56 => (intro wq hSw; (try simp only [List.getElem_toArray, List.getElem_cons_zero, List.getElem_cons_succ]); go_simp; (try with_reducible rfl); all_goals (try omega))
              case rq56 =>
              try simp only [Act.put, List.setIfInBounds_toArray, List.set_cons_zero, List.set_cons_succ, List.getElem_toArray, List.getElem_cons_zero, List.getElem_cons_succ]
              refine wpAnyH_take (i := 8) (v := .int .i64 x.id) rfl (by kernel_rfl) (by kernel_rfl) (by kernel_rfl) (fun _ _ _ h => h) (Or.inl ⟨by rfl, ?yq57⟩) (by assumption) ?rq57
              case yq57 => (intro wq hSw; obtain ⟨k1, k2⟩ := hSw; (try simp only [List.getElem_toArray, List.getElem_cons_zero, List.getElem_cons_succ]); go_simp; (try with_reducible rfl); all_goals (try omega))
              case rq57 =>
              try simp only [Act.put, List.setIfInBounds_toArray, List.set_cons_zero, List.set_cons_succ, List.getElem_toArray, List.getElem_cons_zero, List.getElem_cons_succ]
              refine wpAnyH_take (i := 9) (v := .slice (some ⟨g, o, none⟩) m cc) rfl (by kernel_rfl) (by kernel_rfl) (by kernel_rfl) (fun _ _ _ h => h) (Or.inl ⟨by rfl, ?yq58⟩) (by assumption) ?rq58
              case yq58 => (intro wq hSw; (try simp only [List.getElem_toArray, List.getElem_cons_zero, List.getElem_cons_succ]); go_simp; (try with_reducible rfl); all_goals (try omega))
              case rq58 =>
              try simp only [Act.put, List.setIfInBounds_toArray, List.set_cons_zero, List.set_cons_succ, List.getElem_toArray, List.getElem_cons_zero, List.getElem_cons_succ]
              refine wpAnyH_take (i := 10) (v := .int .i64 (k : Int)) rfl (by kernel_rfl) (by kernel_rfl) (by kernel_rfl) (fun _ _ _ h => h) (Or.inl ⟨by rfl, ?yq59⟩) (by assumption) ?rq59
              case yq59 => (intro wq hSw; (try simp only [List.getElem_toArray, List.getElem_cons_zero, List.getElem_cons_succ]); go_simp; (try with_reducible rfl); all_goals (try omega))
              case rq59 =>
              try simp only [Act.put, List.setIfInBounds_toArray, List.set_cons_zero, List.set_cons_succ, List.getElem_toArray, List.getElem_cons_zero, List.getElem_cons_succ]
              refine wpAnyH_take (i := 11) (v := .pointer (some ⟨g, o + k * 10, none⟩)) rfl (by kernel_rfl) (by kernel_rfl) (by kernel_rfl) (fun _ _ _ h => h) (Or.inl ⟨by rfl, ?yq60⟩) (by assumption) ?rq60
              case yq60 => (intro wq hSw; (try simp only [List.getElem_toArray, List.getElem_cons_zero, List.getElem_cons_succ]); go_simp; (try with_reducible rfl); all_goals (try omega))
              case rq60 =>
              try simp only [Act.put, List.setIfInBounds_toArray, List.set_cons_zero, List.set_cons_succ, List.getElem_toArray, List.getElem_cons_zero, List.getElem_cons_succ]
              refine wpAnyH_take (i := 12) (v := .pointer (some ⟨g, o + k * 10, none⟩)) rfl (by kernel_rfl) (by kernel_rfl) (by kernel_rfl) (fun _ _ _ h => h) (Or.inl ⟨by rfl, ?yq61⟩) (by assumption) ?rq61
              case yq61 => (intro wq hSw; (try simp only [List.getElem_toArray, List.getElem_cons_zero, List.getElem_cons_succ]); go_simp; (try with_reducible rfl); all_goals (try omega))
              case rq61 =>
              try simp only [Act.put, List.setIfInBounds_toArray, List.set_cons_zero, List.set_cons_succ, List.getElem_toArray, List.getElem_cons_zero, List.getElem_cons_succ]
              refine wpAnyH_take (i := 13) (v := .int .i64 x.id) rfl (by kernel_rfl) (by kernel_rfl) (by kernel_rfl) (fun _ _ _ h => h) (Or.inl ⟨by rfl, ?yq62⟩) (by assumption) ?rq62
              case yq62 => (intro wq hSw; obtain ⟨k1, k2⟩ := hSw; (try simp only [List.getElem_toArray, List.getElem_cons_zero, List.getElem_cons_succ]); go_simp; (try with_reducible rfl); all_goals (try omega))
              case rq62 =>
              try simp only [Act.put, List.setIfInBounds_toArray, List.set_cons_zero, List.set_cons_succ, List.getElem_toArray, List.getElem_cons_zero, List.getElem_cons_succ]
              refine wpAnyH_take (i := 14) (v := .bool false) rfl (by kernel_rfl) (by kernel_rfl) (by kernel_rfl) (fun _ _ _ h => h) (Or.inl ⟨by rfl, ?yq63⟩) (by assumption) ?rq63
              case yq63 => (intro wq hSw; (try simp only [List.getElem_toArray, List.getElem_cons_zero, List.getElem_cons_succ]); go_simp; (try with_reducible rfl); all_goals (try omega))
              case rq63 =>
              try simp only [Act.put, List.setIfInBounds_toArray, List.set_cons_zero, List.set_cons_succ, List.getElem_toArray, List.getElem_cons_zero, List.getElem_cons_succ]
              refine wpAnyH_take (i := 15) (v := .bool false) rfl (by kernel_rfl) (by kernel_rfl) (by kernel_rfl) (fun _ _ _ h => h) (Or.inl ⟨by rfl, ?yq64⟩) (by assumption) ?rq64
              case yq64 => (intro wq hSw; (try simp only [List.getElem_toArray, List.getElem_cons_zero, List.getElem_cons_succ]); go_simp; (try with_reducible rfl); all_goals (try omega))
              case rq64 =>
              try simp only [Act.put, List.setIfInBounds_toArray, List.set_cons_zero, List.set_cons_succ, List.getElem_toArray, List.getElem_cons_zero, List.getElem_cons_succ]
              refine wpAnyH_done (by kernel_rfl) ?_ _
              clear hHeld c0 c2 hcv dq dx
              go_wp2_with fail
              go_roundw
              case rel => exact ⟨k + 1, by omega, by go_num, by rw [HSN.out, if_pos HE.out, List.length_append, HQ.out]; go_num, HTR2.out.drew⟩
              case measure => simp [intOf]; omega
            · have d1 : (x.par == NR) = false := by simpa using he
              have HE := Lib.hid he
              clear he
              go_wp2_with fail
              go_roundw
              case rel => exact ⟨k + 1, by omega, by go_num, by rw [HSN.out, if_neg HE.out, HQ.out], HTR2.out⟩
              case measure => simp [intOf]; omega
          · have hke2 : ((C.map El.mod)).take k = (C.map El.mod) := List.take_of_length_le (by rw [HDL.out]; omega)
            rw [hke2, HL.out]
            clear hke2
            have dz : ((L : Int) == (L : Int)) = true := by simp
            go_wp2_with fail
            go_ret
            exact ⟨by first | rfl | simp, HT5.out.trans HTR2.out (fun _ _ => id)⟩
end Go.Proofs.Ytokjlhpkjebnkaa
