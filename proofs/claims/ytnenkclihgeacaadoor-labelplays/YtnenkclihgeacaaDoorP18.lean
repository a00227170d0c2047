/- Own texts, packed: Cp, So, Is, Al, Aw, Nl. -/
import Derived.Test.YtnenkclihgeacaaDoorP17
import Derived.Lib.Bytealg
/- Own contracts: names are compared. No statement is proved here. -/
namespace Go.Proofs.YtnenkclihgeacaaDoor
set_option maxRecDepth 100000
open Go.RowKit
set_option linter.unusedVariables false
set_option linter.unusedSimpArgs false

section
open Lib
theorem cb_refl : ∀ a : List UInt8, compareBytes a a = 0
  | [] => rfl
  | a :: la => by unfold compareBytes; rw [if_neg (by simp), if_neg (by simp)]; exact cb_refl la
theorem cb_eq : ∀ a b : List UInt8, compareBytes a b = 0 → a = b
  | [], [], _ => rfl
  | [], b :: bs, h => by simp [compareBytes] at h
  | a :: la, [], h => by simp [compareBytes] at h
  | a :: la, b :: bs, h => by
    unfold compareBytes at h
    split at h
    · simp at h
    · split at h
      · simp at h
      · rename_i h1 h2
        have he : a = b := UInt8.toNat_inj.1 (by simp only [UInt8.lt_iff_toNat_lt] at h1 h2; omega)
        rw [he, cb_eq la bs h]
theorem cb_flip : ∀ a b : List UInt8, compareBytes b a = - compareBytes a b
  | [], [] => rfl
  | [], b :: bs => rfl
  | a :: la, [] => rfl
  | a :: la, b :: bs => by
    unfold compareBytes
    by_cases h1 : a < b
    · rw [if_pos h1, if_neg (by simp only [UInt8.lt_iff_toNat_lt] at h1 ⊢; omega), if_pos h1]
      rfl
    · rw [if_neg h1]
      by_cases h2 : b < a
      · simp [h1, h2]
      · rw [if_neg h2, if_neg h2, if_neg h1]
        exact cb_flip la bs
theorem cb_trans : ∀ a b c : List UInt8, compareBytes a b < 0 → compareBytes b c < 0 → compareBytes a c < 0
  | [], b, [], h1, h2 => by
    cases b with
    | nil => simp [compareBytes] at h1
    | cons => simp [compareBytes] at h2
  | [], _, c :: cs, _, _ => by simp [compareBytes]
  | a :: la, [], c, h1, _ => by simp [compareBytes] at h1
  | a :: la, b :: bs, [], _, h2 => by simp [compareBytes] at h2
  | a :: la, b :: bs, c :: cs, h1, h2 => by
    unfold compareBytes at h1 h2 ⊢
    simp only [UInt8.lt_iff_toNat_lt] at h1 h2 ⊢
    by_cases x1 : a.toNat < b.toNat
    · by_cases x2 : b.toNat < c.toNat
      · rw [if_pos (by omega)]; omega
      · rw [if_neg x2] at h2
        by_cases x3 : c.toNat < b.toNat
        · rw [if_pos x3] at h2; omega
        · rw [if_pos (by omega)]; omega
    · rw [if_neg x1] at h1
      by_cases x4 : b.toNat < a.toNat
      · rw [if_pos x4] at h1; omega
      · rw [if_neg x4] at h1
        by_cases x2 : b.toNat < c.toNat
        · rw [if_pos (by omega)]; omega
        · rw [if_neg x2] at h2
          by_cases x3 : c.toNat < b.toNat
          · rw [if_pos x3] at h2; omega
          · rw [if_neg x3] at h2
            rw [if_neg (by omega), if_neg (by omega)]
            exact cb_trans la bs cs h1 h2
end
def cmpR (x y : Rf) : Int := Lib.compareBytes x.name.data.toList y.name.data.toList
theorem cmpR_flip (x y : Rf) : cmpR y x = - cmpR x y := cb_flip _ _
theorem cmpR_trans {x y z : Rf} (h1 : cmpR x y < 0) (h2 : cmpR y z < 0) : cmpR x z < 0 := cb_trans _ _ _ h1 h2
theorem cmpR_eq {x y : Rf} (h : cmpR x y = 0) (z : Rf) : cmpR x z = cmpR y z := by
  have := cb_eq _ _ h
  unfold cmpR
  rw [this]
/-- Not behind it. -/
theorem leR_trans {x y z : Rf} (h1 : cmpR x y ≤ 0) (h2 : cmpR y z ≤ 0) : cmpR x z ≤ 0 := by
  by_cases a : cmpR x y = 0
  · rw [cmpR_eq a]; exact h2
  · by_cases b : cmpR y z = 0
    · have e := cmpR_eq b x
      have f1 := cmpR_flip y x
      have f2 := cmpR_flip z x
      omega
    · have := cmpR_trans (show cmpR x y < 0 by omega) (show cmpR y z < 0 by omega)
      omega
theorem cmpstr_any (a b : ByteArray) (w : World) : Calls Tryd.prog 69 #[.string a, .string b] w fun e w' => e = .returned (.int .i64 (Lib.compareBytes a.data.toList b.data.toList)) ∧ w' = w := by
  go_enter Tryd.func69, Tryd.ntmps69
  go_wp2_with fail
  rw [run_callFunc_extern Tryd.func85 (by kernel_rfl) (by kernel_rfl) (by kernel_rfl) (e := Extern.BytealgCompare.compare) (by kernel_rfl), Lib.run_compareString]
  simp only [Result.andThen]
  rw [Oper.upon_value]
  go_wp2_with fail
  go_ret
  exact ⟨rfl, rfl⟩
theorem compare_any (a b : ByteArray) (w : World) : Calls Tryd.prog 50 #[.string a, .string b] w fun e w' => e = .returned (.int .i64 (Lib.compareBytes a.data.toList b.data.toList)) ∧ w' = w := by
  go_enter Tryd.func50, Tryd.ntmps50
  go_wp2_with fail
  refine (cmpstr_any a b w).mono ?_
  rintro e w' ⟨rfl, rfl⟩
  obtain ⟨r, hr⟩ : ∃ r, Lib.compareBytes a.data.toList b.data.toList = r := ⟨_, rfl⟩
  rw [hr]
  have HR := Lib.hid hr
  clear hr
  go_wp2_with fail
  go_ret
  exact ⟨by first | rfl | (rw [HR.out]; rfl) | (rw [← HR.out]; rfl), rfl⟩
theorem clos49 (x y : Rf) (w : World) : Calls Tryd.prog 49 #[.agg x.vals.toArray, .agg y.vals.toArray] w fun e w' => e = .returned (.int .i64 (cmpR x y)) ∧ Turn (fun _ => False) w w' := by
  have hb1 := box_alloc w 37 x.vals
  obtain ⟨w1, hw1⟩ : ∃ w1, w.alloc (.cells x.vals.toArray 37) = w1 := ⟨_, rfl⟩
  rw [hw1] at hb1
  have hb2 := box_alloc w1 37 y.vals
  obtain ⟨w2, hw2⟩ : ∃ w2, w1.alloc (.cells y.vals.toArray 37) = w2 := ⟨_, rfl⟩
  rw [hw2] at hb2
  have c1 : w2.cell? ⟨w.heap.size, 0, none⟩ = some (.string x.name) := (hb2.turn.cell (p := ⟨w.heap.size, 0, none⟩) (by rw [hb1.size]; exact Nat.lt_succ_self _) id).trans (hb1.cell 0 _ x.v0)
  have c2 := hb2.cell 0 _ y.v0
  have HT := Lib.hid (hb1.turn.trans hb2.turn (fun _ _ => id))
  clear hb1 hb2
  go_enter Tryd.func49, Tryd.ntmps49
  go_wp2_with fail
  refine (compare_any x.name y.name w2).mono ?_
  rintro e w3 ⟨rfl, rfl⟩
  have HR := Lib.hid (show Lib.compareBytes x.name.data.toList y.name.data.toList = cmpR x y from rfl)
  generalize Lib.compareBytes x.name.data.toList y.name.data.toList = r at *
  go_wp2_with fail
  go_ret
  exact ⟨by rw [← HR.out]; rfl, HT.out⟩
end Go.Proofs.YtnenkclihgeacaaDoor
/- Own contracts: how a sort goes. No statement is proved here. -/
namespace Go.Proofs.YtnenkclihgeacaaDoor
set_option maxRecDepth 100000
open Go.RowKit
set_option linter.unusedVariables false
set_option linter.unusedSimpArgs false

/-- The first i are in order. -/
def Srt (rs : List Rf) (i : Nat) : Prop := ∀ p q, p < q → q < i → cmpR (rs.getD p rf0) (rs.getD q rf0) ≤ 0
/-- As the sort leaves them. -/
structure InsI (rs0 rs : List Rf) (n i : Nat) : Prop where
  len : rs.length = 12
  perm : (rs.take n).Perm (rs0.take n)
  srt : Srt rs i
/-- While one goes down. -/
structure InsJ (rs0 rs : List Rf) (n i j : Nat) : Prop where
  len : rs.length = 12
  perm : (rs.take n).Perm (rs0.take n)
  low : ∀ p q, p < q → q ≤ i → p ≠ j → q ≠ j → cmpR (rs.getD p rf0) (rs.getD q rf0) ≤ 0
  top : ∀ q, j < q → q ≤ i → cmpR (rs.getD j rf0) (rs.getD q rf0) ≤ 0
theorem InsI.start {rs0 rs : List Rf} {n i : Nat} (h : InsI rs0 rs n i) : InsJ rs0 rs n i i := ⟨h.len, h.perm, fun p q hpq hq hp hq' => h.srt p q hpq (by omega), fun q h1 h2 => by omega⟩
theorem InsJ.done {rs0 rs : List Rf} {n i j : Nat} (h : InsJ rs0 rs n i j) (hj : j ≤ i) (hd : j = 0 ∨ cmpR (rs.getD (j - 1) rf0) (rs.getD j rf0) ≤ 0) : InsI rs0 rs n (i + 1) := by
  refine ⟨h.len, h.perm, fun p q hpq hq => ?_⟩
  by_cases e1 : q = j
  · subst e1
    rcases hd with h0 | h0
    · omega
    · by_cases e2 : p = q - 1
      · subst e2; exact h0
      · exact leR_trans (h.low p (q - 1) (by omega) (by omega) (by omega) (by omega)) h0
  · by_cases e2 : p = j
    · subst e2; exact h.top q hpq (by omega)
    · exact h.low p q hpq (by omega) e2 e1
theorem getD_set_eq {rs : List Rf} (k : Nat) (x : Rf) (hk : k < rs.length) : (rs.set k x).getD k rf0 = x := by simp [List.getD, hk]
theorem getD_set_ne {rs : List Rf} (k p : Nat) (x : Rf) (h : p ≠ k) : (rs.set k x).getD p rf0 = rs.getD p rf0 := by simp [List.getD, List.getElem?_set_ne (Ne.symm h)]
theorem swap_perm (rs : List Rf) (n j : Nat) (hj : 0 < j) (hjn : j < n) (hn : n ≤ rs.length) : (((rs.set j (rs.getD (j - 1) rf0)).set (j - 1) (rs.getD j rf0)).take n).Perm (rs.take n) := by
  obtain ⟨k, rfl⟩ : ∃ k, j = k + 1 := ⟨j - 1, by omega⟩
  simp only [Nat.add_sub_cancel]
  have hk1 : k + 1 < rs.length := by omega
  have hk : k < rs.length := by omega
  have e : rs = rs.take k ++ rs[k] :: rs[k + 1] :: rs.drop (k + 2) := by
    rw [← List.drop_eq_getElem_cons hk1, ← List.drop_eq_getElem_cons hk, List.take_append_drop]
  have g1 : rs.getD k rf0 = rs[k] := by simp [List.getD, hk]
  have g2 : rs.getD (k + 1) rf0 = rs[k + 1] := by simp [List.getD, hk1]
  have hlk : (rs.take k).length = k := by simp; omega
  have e2 : (rs.set (k + 1) rs[k]).set k rs[k + 1] = rs.take k ++ rs[k + 1] :: rs[k] :: rs.drop (k + 2) := by
    apply List.ext_getElem?
    intro q
    rw [List.getElem?_set, List.getElem?_set]
    by_cases q1 : k = q
    · subst q1
      rw [if_pos rfl, if_pos (by simpa using hk), List.getElem?_append_right (by omega), hlk, Nat.sub_self]
      rfl
    · rw [if_neg q1]
      by_cases q2 : k + 1 = q
      · subst q2
        rw [if_pos rfl, if_pos hk1, List.getElem?_append_right (by omega), hlk, show k + 1 - k = 1 by omega]
        rfl
      · rw [if_neg q2]
        by_cases q3 : q < k
        · rw [List.getElem?_append_left (by omega), List.getElem?_take, if_pos q3]
        · rw [List.getElem?_append_right (by omega), hlk]
          obtain ⟨d, rfl⟩ : ∃ d, q = k + 2 + d := ⟨q - k - 2, by omega⟩
          rw [show k + 2 + d - k = d + 1 + 1 by omega, List.getElem?_cons_succ, List.getElem?_cons_succ, List.getElem?_drop]
  rw [g1, g2, e2]
  have e3 : rs.take n = rs.take k ++ rs[k] :: rs[k + 1] :: (rs.drop (k + 2)).take (n - (k + 2)) := by
    conv => lhs; rw [e]
    rw [List.take_append, hlk, List.take_of_length_le (by omega), show n - k = (n - (k + 2)) + 1 + 1 by omega, List.take_succ_cons, List.take_succ_cons]
  have e4 : (rs.take k ++ rs[k + 1] :: rs[k] :: rs.drop (k + 2)).take n = rs.take k ++ rs[k + 1] :: rs[k] :: (rs.drop (k + 2)).take (n - (k + 2)) := by
    rw [List.take_append, hlk, List.take_of_length_le (by omega), show n - k = (n - (k + 2)) + 1 + 1 by omega, List.take_succ_cons, List.take_succ_cons]
  rw [e3, e4]
  exact List.Perm.append_left _ (List.Perm.swap _ _ _)
theorem InsJ.down {rs0 rs : List Rf} {n i j : Nat} (h : InsJ rs0 rs n i j) (hj0 : 0 < j) (hj : j ≤ i) (hi : i < n) (hn : n ≤ 12) (hlt : cmpR (rs.getD j rf0) (rs.getD (j - 1) rf0) < 0) : InsJ rs0 ((rs.set j (rs.getD (j - 1) rf0)).set (j - 1) (rs.getD j rf0)) n i (j - 1) := by
  have hl := h.len
  have a1 : ((rs.set j (rs.getD (j - 1) rf0)).set (j - 1) (rs.getD j rf0)).getD (j - 1) rf0 = rs.getD j rf0 := getD_set_eq _ _ (by simp; omega)
  have a2 : ((rs.set j (rs.getD (j - 1) rf0)).set (j - 1) (rs.getD j rf0)).getD j rf0 = rs.getD (j - 1) rf0 := by rw [getD_set_ne _ _ _ (by omega), getD_set_eq _ _ (by omega)]
  have a3 : ∀ p, p ≠ j → p ≠ j - 1 → ((rs.set j (rs.getD (j - 1) rf0)).set (j - 1) (rs.getD j rf0)).getD p rf0 = rs.getD p rf0 := fun p h1 h2 => by rw [getD_set_ne _ _ _ h2, getD_set_ne _ _ _ h1]
  refine ⟨by simpa using hl, (swap_perm rs n j hj0 (by omega) (by omega)).trans h.perm, fun p q hpq hq hp hq' => ?_, fun q h1 h2 => ?_⟩
  · by_cases e1 : q = j
    · subst e1
      rw [a2, a3 p (by omega) hp]
      exact h.low p (q - 1) (by omega) (by omega) (by omega) (by omega)
    · by_cases e2 : p = j
      · subst e2
        rw [a2, a3 q e1 hq']
        exact h.low (p - 1) q (by omega) hq (by omega) e1
      · rw [a3 p e2 hp, a3 q e1 hq']
        exact h.low p q hpq hq e2 e1
  · rw [a1]
    by_cases e1 : q = j
    · subst e1; rw [a2]; omega
    · rw [a3 q e1 (by omega)]
      exact h.top q (by omega) h2
end Go.Proofs.YtnenkclihgeacaaDoor
/- Own contracts: refs are put in order. No statement is proved here. -/
namespace Go.Proofs.YtnenkclihgeacaaDoor
set_option maxRecDepth 100000
open Go.RowKit
set_option linter.unusedVariables false
set_option linter.unusedSimpArgs false

set_option maxHeartbeats 16000000 in
theorem insert_any (w : World) (g c n : Nat) (rs0 : List Rf) (ex : List Value) (h : RB w g rs0 ex) (hl : rs0.length = 12) (hn12 : n ≤ 12) (hnc : n ≤ c) :
    Calls Tryd.prog 75 #[.slice (some ⟨g, 0, none⟩) n c, .int .i64 0, .int .i64 (n : Int), .func (.func 49) #[] #[]] w fun e w' => (∃ v, e = .returned v) ∧ ∃ rs, InsI rs0 rs n n ∧ RB w' g rs ex ∧ Turn (fun k => k = g) w w' := by
  have HRB := Lib.hid h
  have HL := Lib.hid hl
  clear h hl
  go_enter Tryd.func75, Tryd.ntmps75
  go_wp2_with fail
  go_loopw [8] (fun iv wr => ∃ (i : Nat) (rs : List Rf), 1 ≤ i ∧ (i ≤ n ∨ i = 1) ∧ iv = .int .i64 (i : Int) ∧ InsI rs0 rs n i ∧ RB wr g rs ex ∧ Turn (fun k => k = g) w wr) (fun iv _ => 13 - (intOf iv).toNat)
  case atStart => exact ⟨1, rs0, by omega, .inr rfl, by go_num, ⟨HL.out, List.Perm.refl _, fun p q h1 h2 => by omega⟩, HRB.out, Turn.refl _ _⟩
  case round =>
    obtain ⟨i, rs, hi1, hin, rfl, hI, hrb, htr⟩ := hrel
    have HI := Lib.hid hI
    have HRBr := Lib.hid hrb
    have HTr := Lib.hid htr
    clear hI hrb htr
    by_cases hlt : i < n
    · have hd1 : decide ((i : Int) < (n : Int)) = true := decide_eq_true (by omega)
      have hwi : IntKind.i64.wrap ((i : Int) + 1) = (i : Int) + 1 := by rw [IntKind.wrap_i64]; omega
      go_wp2_with fail
      go_loopw [9] (fun jv wq => ∃ j : Nat, j ≤ i ∧ jv = .int .i64 (j : Int) ∧ ∃ rs, InsJ rs0 rs n i j ∧ RB wq g rs ex ∧ Turn (fun k => k = g) w wq) (fun jv _ => (intOf jv).toNat)
      case atStart => exact ⟨i, Nat.le_refl _, rfl, rs, HI.out.start, HRBr.out, HTr.out⟩
      case round =>
        clear HI HRBr HTr
        rename_i wr0
        obtain ⟨j, hji, rfl, rs, hJ, hrb, htr⟩ := hrel
        have HJ := Lib.hid hJ
        have HRBr := Lib.hid hrb
        have HTr := Lib.hid htr
        have HLn := Lib.hid hJ.len
        clear hJ hrb htr
        by_cases hj0 : 0 < j
        · have hd2 : decide ((0 : Int) < (j : Int)) = true := decide_eq_true (by omega)
          have hwj : IntKind.i64.wrap ((j : Int) - 1) = (j : Int) - 1 := by rw [IntKind.wrap_i64]; omega
          have gj : (0 : Int) ≤ (j : Int) ∧ (j : Int) < (n : Int) := by omega
          have gj1 : (0 : Int) ≤ (j : Int) - 1 ∧ (j : Int) - 1 < (n : Int) := by omega
          have gj2 : (0 : Int) ≤ (j : Int) - 1 := by omega
          have gj3 : (j : Int) - 1 < (n : Int) := by omega
          have htn : ((j : Int) - 1).toNat = j - 1 := by omega
          have hjl : j < rs.length := by rw [HLn.out]; omega
          have hjl1 : j - 1 < rs.length := by omega
          have hx := HRBr.out.get j hjl
          have hy := HRBr.out.get (j - 1) hjl1
          have hSx := HRBr.out.row.at_ j hjl
          have hSy := HRBr.out.row.at_ (j - 1) hjl1
          rw [Nat.zero_add] at hSx hSy
          generalize hxe : rs.getD j rf0 = x at *
          generalize hye : rs.getD (j - 1) rf0 = y at *
          have HXE := Lib.hid hxe
          have HYE := Lib.hid hye
          clear hxe hye
          go_wp2_with fail
          refine wp_region_held_drew (S := fun wq => wq.rangeAt g (j * 34) x.vals ∧ wq.rangeAt g ((j - 1) * 34) y.vals) (by kernel_rfl) ⟨hSx, hSy⟩ (fun hHeld => ?_)
          refine wpAnyH_take (i := 0) (v := .int .i64 (j : Int)) rfl (by kernel_rfl) (by kernel_rfl) (by kernel_rfl) (fun _ _ _ h => h) (Or.inl ⟨by rfl, ?yq1⟩) (by assumption) ?rq1
          case yq1 => (intro wq hSw; (try simp only [List.getElem_toArray, List.getElem_cons_zero, List.getElem_cons_succ]); go_simp; (try with_reducible rfl); all_goals (try omega))
          case rq1 =>
          try simp only [Act.put, List.setIfInBounds_toArray, List.set_cons_zero, List.set_cons_succ, List.getElem_toArray, List.getElem_cons_zero, List.getElem_cons_succ]
          refine wpAnyH_take (i := 1) (v := .int .i64 0) rfl (by kernel_rfl) (by kernel_rfl) (by kernel_rfl) (fun _ _ _ h => h) (Or.inl ⟨by rfl, ?yq2⟩) (by assumption) ?rq2
          case yq2 => (intro wq hSw; (try simp only [List.getElem_toArray, List.getElem_cons_zero, List.getElem_cons_succ]); go_simp; (try with_reducible rfl); all_goals (try omega))
          case rq2 =>
          try simp only [Act.put, List.setIfInBounds_toArray, List.set_cons_zero, List.set_cons_succ, List.getElem_toArray, List.getElem_cons_zero, List.getElem_cons_succ]
          refine wpAnyH_take (i := 2) (v := .bool true) rfl (by kernel_rfl) (by kernel_rfl) (by kernel_rfl) (fun _ _ _ h => h) (Or.inl ⟨by rfl, ?yq3⟩) (by assumption) ?rq3
          case yq3 => (intro wq hSw; (try simp only [List.getElem_toArray, List.getElem_cons_zero, List.getElem_cons_succ]); go_simp; (try with_reducible rfl); all_goals (try omega))
          case rq3 =>
          try simp only [Act.put, List.setIfInBounds_toArray, List.set_cons_zero, List.set_cons_succ, List.getElem_toArray, List.getElem_cons_zero, List.getElem_cons_succ]
          refine wpAnyH_take (i := 3) (v := .bool true) rfl (by kernel_rfl) (by kernel_rfl) (by kernel_rfl) (fun _ _ _ h => h) (Or.inl ⟨by rfl, ?yq4⟩) (by assumption) ?rq4
          case yq4 => (intro wq hSw; (try simp only [List.getElem_toArray, List.getElem_cons_zero, List.getElem_cons_succ]); go_simp; (try with_reducible rfl); all_goals (try omega))
          case rq4 =>
          try simp only [Act.put, List.setIfInBounds_toArray, List.set_cons_zero, List.set_cons_succ, List.getElem_toArray, List.getElem_cons_zero, List.getElem_cons_succ]
          refine wpAnyH_take (i := 4) (v := .func (.func 49) #[] #[]) rfl (by kernel_rfl) (by kernel_rfl) (by kernel_rfl) (fun _ _ _ h => h) (Or.inl ⟨by rfl, ?yq5⟩) (by assumption) ?rq5
          case yq5 => (intro wq hSw; (try simp only [List.getElem_toArray, List.getElem_cons_zero, List.getElem_cons_succ]); go_simp; (try with_reducible rfl); all_goals (try omega))
          case rq5 =>
          try simp only [Act.put, List.setIfInBounds_toArray, List.set_cons_zero, List.set_cons_succ, List.getElem_toArray, List.getElem_cons_zero, List.getElem_cons_succ]
          refine wpAnyH_take (i := 5) (v := .slice (some ⟨g, 0, none⟩) n c) rfl (by kernel_rfl) (by kernel_rfl) (by kernel_rfl) (fun _ _ _ h => h) (Or.inl ⟨by rfl, ?yq6⟩) (by assumption) ?rq6
          case yq6 => (intro wq hSw; (try simp only [List.getElem_toArray, List.getElem_cons_zero, List.getElem_cons_succ]); go_simp; (try with_reducible rfl); all_goals (try omega))
          case rq6 =>
          try simp only [Act.put, List.setIfInBounds_toArray, List.set_cons_zero, List.set_cons_succ, List.getElem_toArray, List.getElem_cons_zero, List.getElem_cons_succ]
          refine wpAnyH_take (i := 6) (v := .int .i64 (j : Int)) rfl (by kernel_rfl) (by kernel_rfl) (by kernel_rfl) (fun _ _ _ h => h) (Or.inl ⟨by rfl, ?yq7⟩) (by assumption) ?rq7
          case yq7 => (intro wq hSw; (try simp only [List.getElem_toArray, List.getElem_cons_zero, List.getElem_cons_succ]); go_simp; (try with_reducible rfl); all_goals (try omega))
          case rq7 =>
          try simp only [Act.put, List.setIfInBounds_toArray, List.set_cons_zero, List.set_cons_succ, List.getElem_toArray, List.getElem_cons_zero, List.getElem_cons_succ]
          refine wpAnyH_take (i := 7) (v := .pointer (some ⟨g, j * 34, none⟩)) rfl (by kernel_rfl) (by kernel_rfl) (by kernel_rfl) (fun _ _ _ h => h) (Or.inl ⟨by rfl, ?yq8⟩) (by assumption) ?rq8
          case yq8 => (intro wq hSw; (try simp only [List.getElem_toArray, List.getElem_cons_zero, List.getElem_cons_succ]); go_simp; (try with_reducible rfl); all_goals (try omega))
          case rq8 =>
          try simp only [Act.put, List.setIfInBounds_toArray, List.set_cons_zero, List.set_cons_succ, List.getElem_toArray, List.getElem_cons_zero, List.getElem_cons_succ]
          refine wpAnyH_take (i := 8) (v := .agg x.vals.toArray) rfl (by kernel_rfl) (by kernel_rfl) (by kernel_rfl) (fun _ _ _ h => h) (Or.inl ⟨by rfl, ?yq9⟩) (by assumption) ?rq9
          case yq9 => (intro wq hSw; exact exec_load_mid _ _ 37 _ rfl g (j * 34) (by first | rfl | simp) x.vals _ _ hSw.1 Tryd.underlying37 rfl (by rw [hx.vlen]; exact info37))
          case rq9 =>
          try simp only [Act.put, List.setIfInBounds_toArray, List.set_cons_zero, List.set_cons_succ, List.getElem_toArray, List.getElem_cons_zero, List.getElem_cons_succ]
          refine wpAnyH_take (i := 9) (v := .slice (some ⟨g, 0, none⟩) n c) rfl (by kernel_rfl) (by kernel_rfl) (by kernel_rfl) (fun _ _ _ h => h) (Or.inl ⟨by rfl, ?yq10⟩) (by assumption) ?rq10
          case yq10 => (intro wq hSw; (try simp only [List.getElem_toArray, List.getElem_cons_zero, List.getElem_cons_succ]); go_simp; (try with_reducible rfl); all_goals (try omega))
          case rq10 =>
          try simp only [Act.put, List.setIfInBounds_toArray, List.set_cons_zero, List.set_cons_succ, List.getElem_toArray, List.getElem_cons_zero, List.getElem_cons_succ]
          refine wpAnyH_take (i := 10) (v := .int .i64 (j : Int)) rfl (by kernel_rfl) (by kernel_rfl) (by kernel_rfl) (fun _ _ _ h => h) (Or.inl ⟨by rfl, ?yq11⟩) (by assumption) ?rq11
          case yq11 => (intro wq hSw; (try simp only [List.getElem_toArray, List.getElem_cons_zero, List.getElem_cons_succ]); go_simp; (try with_reducible rfl); all_goals (try omega))
          case rq11 =>
          try simp only [Act.put, List.setIfInBounds_toArray, List.set_cons_zero, List.set_cons_succ, List.getElem_toArray, List.getElem_cons_zero, List.getElem_cons_succ]
          refine wpAnyH_take (i := 11) (v := .int .i64 ((j : Int) - 1)) rfl (by kernel_rfl) (by kernel_rfl) (by kernel_rfl) (fun _ _ _ h => h) (Or.inl ⟨by rfl, ?yq12⟩) (by assumption) ?rq12
          case yq12 => (intro wq hSw; (try simp only [List.getElem_toArray, List.getElem_cons_zero, List.getElem_cons_succ]); go_simp; (try with_reducible rfl); all_goals (try omega))
          case rq12 =>
          try simp only [Act.put, List.setIfInBounds_toArray, List.set_cons_zero, List.set_cons_succ, List.getElem_toArray, List.getElem_cons_zero, List.getElem_cons_succ]
          refine wpAnyH_take (i := 12) (v := .pointer (some ⟨g, (j - 1) * 34, none⟩)) rfl (by kernel_rfl) (by kernel_rfl) (by kernel_rfl) (fun _ _ _ h => h) (Or.inl ⟨by rfl, ?yq13⟩) (by assumption) ?rq13
          case yq13 => (intro wq hSw; (try simp only [List.getElem_toArray, List.getElem_cons_zero, List.getElem_cons_succ]); go_simp; (try with_reducible rfl); all_goals (try omega))
          case rq13 =>
          try simp only [Act.put, List.setIfInBounds_toArray, List.set_cons_zero, List.set_cons_succ, List.getElem_toArray, List.getElem_cons_zero, List.getElem_cons_succ]
          refine wpAnyH_take (i := 13) (v := .agg y.vals.toArray) rfl (by kernel_rfl) (by kernel_rfl) (by kernel_rfl) (fun _ _ _ h => h) (Or.inl ⟨by rfl, ?yq14⟩) (by assumption) ?rq14
          case yq14 => (intro wq hSw; exact exec_load_mid _ _ 37 _ rfl g ((j - 1) * 34) (by first | rfl | simp) y.vals _ _ hSw.2 Tryd.underlying37 rfl (by rw [hy.vlen]; exact info37))
          case rq14 =>
          try simp only [Act.put, List.setIfInBounds_toArray, List.set_cons_zero, List.set_cons_succ, List.getElem_toArray, List.getElem_cons_zero, List.getElem_cons_succ]
          refine wpAnyH_ready (rs := [14]) (by kernel_rfl) (by simp) ?_
          refine AllReadyH.cons rfl (fun K hK => ?_) AllReadyH.nil
          go_simp
          refine (clos49 x y wr.drew).mono ?_
          rintro e w4 ⟨rfl, t4⟩
          have HT4 := Lib.hid (show Turn (fun _ => False) wr w4 from (Turn.refl (fun _ => False) wr).drew.trans t4 (fun _ _ => id))
          clear t4
          refine hK.out _ _ ⟨rangeAt_turn hSx HT4.out id, rangeAt_turn hSy HT4.out id⟩ (fun _ => ?_)
          clear hK K
          try simp only [Act.put, List.setIfInBounds_toArray, List.set_cons_zero, List.set_cons_succ, List.getElem_toArray, List.getElem_cons_zero, List.getElem_cons_succ]
          refine wpAnyH_take (i := 15) (v := .bool (decide (cmpR x y < 0))) rfl (by kernel_rfl) (by kernel_rfl) (by kernel_rfl) (fun _ _ _ h => h) (Or.inl ⟨by rfl, ?yq15⟩) (by assumption) ?rq15
          case yq15 => (intro wq hSw; (try simp only [List.getElem_toArray, List.getElem_cons_zero, List.getElem_cons_succ]); go_simp; (try with_reducible rfl); all_goals (try omega))
          case rq15 =>
          try simp only [Act.put, List.setIfInBounds_toArray, List.set_cons_zero, List.set_cons_succ, List.getElem_toArray, List.getElem_cons_zero, List.getElem_cons_succ]
          refine wpAnyH_take (i := 16) (v := .bool (decide (cmpR x y < 0))) rfl (by kernel_rfl) (by kernel_rfl) (by kernel_rfl) (fun _ _ _ h => h) (Or.inl ⟨by rfl, ?yq16⟩) (by assumption) ?rq16
          case yq16 => (intro wq hSw; (try simp only [List.getElem_toArray, List.getElem_cons_zero, List.getElem_cons_succ]); go_simp; (try with_reducible rfl); all_goals (try omega))
          case rq16 =>
          try simp only [Act.put, List.setIfInBounds_toArray, List.set_cons_zero, List.set_cons_succ, List.getElem_toArray, List.getElem_cons_zero, List.getElem_cons_succ]
          refine wpAnyH_done (by kernel_rfl) ?_ _
          clear hHeld
          have HRB4 := Lib.hid (HRBr.out.turn HT4.out id)
          have HTr4 := Lib.hid (HTr.out.trans (HT4.out.mono (fun _ _ h => h.elim)) (fun _ _ h => h))
          have hSx4 := rangeAt_turn hSx HT4.out id
          have hSy4 := rangeAt_turn hSy HT4.out id
          clear hSx hSy
          by_cases hc : cmpR x y < 0
          · rw [decide_eq_true hc]
            have HLT := Lib.hid hc
            clear hc
            have hSx : w4.drew.rangeAt g (j * 34) x.vals := hSx4
            have hSy : w4.drew.rangeAt g ((j - 1) * 34) y.vals := hSy4
            have HRBd := Lib.hid (show RB w4.drew g rs ex from HRB4.out.turn (Turn.refl (fun _ => False) w4).drew id)
            have HTd := Lib.hid (show Turn (fun k => k = g) w w4.drew from HTr4.out.drew)
            clear hSx4 hSy4
            go_wp2_with fail
            refine wp_region_held_drew (S := fun _ => True) (by kernel_rfl) trivial (fun hHeld => ?_)
            generalize w4.drew = wd at *
            refine wpAnyH_take (i := 0) (v := .slice (some ⟨g, 0, none⟩) n c) rfl (by kernel_rfl) (by kernel_rfl) (by kernel_rfl) (fun _ _ _ h => h) (Or.inl ⟨by rfl, ?yq150⟩) (by assumption) ?rq150
            case yq150 => (intro wq hSw; (try simp only [List.getElem_toArray, List.getElem_cons_zero, List.getElem_cons_succ]); go_simp; (try with_reducible rfl); all_goals (try omega))
            case rq150 =>
            try simp only [Act.put, List.setIfInBounds_toArray, List.set_cons_zero, List.set_cons_succ, List.getElem_toArray, List.getElem_cons_zero, List.getElem_cons_succ]
            refine wpAnyH_take (i := 1) (v := .int .i64 (j : Int)) rfl (by kernel_rfl) (by kernel_rfl) (by kernel_rfl) (fun _ _ _ h => h) (Or.inl ⟨by rfl, ?yq151⟩) (by assumption) ?rq151
            case yq151 => (intro wq hSw; (try simp only [List.getElem_toArray, List.getElem_cons_zero, List.getElem_cons_succ]); go_simp; (try with_reducible rfl); all_goals (try omega))
            case rq151 =>
            try simp only [Act.put, List.setIfInBounds_toArray, List.set_cons_zero, List.set_cons_succ, List.getElem_toArray, List.getElem_cons_zero, List.getElem_cons_succ]
            refine wpAnyH_take (i := 2) (v := .slice (some ⟨g, 0, none⟩) n c) rfl (by kernel_rfl) (by kernel_rfl) (by kernel_rfl) (fun _ _ _ h => h) (Or.inl ⟨by rfl, ?yq152⟩) (by assumption) ?rq152
            case yq152 => (intro wq hSw; (try simp only [List.getElem_toArray, List.getElem_cons_zero, List.getElem_cons_succ]); go_simp; (try with_reducible rfl); all_goals (try omega))
            case rq152 =>
            try simp only [Act.put, List.setIfInBounds_toArray, List.set_cons_zero, List.set_cons_succ, List.getElem_toArray, List.getElem_cons_zero, List.getElem_cons_succ]
            refine wpAnyH_take (i := 3) (v := .int .i64 (j : Int)) rfl (by kernel_rfl) (by kernel_rfl) (by kernel_rfl) (fun _ _ _ h => h) (Or.inl ⟨by rfl, ?yq153⟩) (by assumption) ?rq153
            case yq153 => (intro wq hSw; (try simp only [List.getElem_toArray, List.getElem_cons_zero, List.getElem_cons_succ]); go_simp; (try with_reducible rfl); all_goals (try omega))
            case rq153 =>
            try simp only [Act.put, List.setIfInBounds_toArray, List.set_cons_zero, List.set_cons_succ, List.getElem_toArray, List.getElem_cons_zero, List.getElem_cons_succ]
            refine wpAnyH_take (i := 4) (v := .int .i64 ((j : Int) - 1)) rfl (by kernel_rfl) (by kernel_rfl) (by kernel_rfl) (fun _ _ _ h => h) (Or.inl ⟨by rfl, ?yq154⟩) (by assumption) ?rq154
            case yq154 => (intro wq hSw; (try simp only [List.getElem_toArray, List.getElem_cons_zero, List.getElem_cons_succ]); go_simp; (try with_reducible rfl); all_goals (try omega))
            case rq154 =>
            try simp only [Act.put, List.setIfInBounds_toArray, List.set_cons_zero, List.set_cons_succ, List.getElem_toArray, List.getElem_cons_zero, List.getElem_cons_succ]
            refine wpAnyH_take (i := 5) (v := .slice (some ⟨g, 0, none⟩) n c) rfl (by kernel_rfl) (by kernel_rfl) (by kernel_rfl) (fun _ _ _ h => h) (Or.inl ⟨by rfl, ?yq155⟩) (by assumption) ?rq155
            case yq155 => (intro wq hSw; (try simp only [List.getElem_toArray, List.getElem_cons_zero, List.getElem_cons_succ]); go_simp; (try with_reducible rfl); all_goals (try omega))
            case rq155 =>
            try simp only [Act.put, List.setIfInBounds_toArray, List.set_cons_zero, List.set_cons_succ, List.getElem_toArray, List.getElem_cons_zero, List.getElem_cons_succ]
            refine wpAnyH_take (i := 6) (v := .int .i64 (j : Int)) rfl (by kernel_rfl) (by kernel_rfl) (by kernel_rfl) (fun _ _ _ h => h) (Or.inl ⟨by rfl, ?yq156⟩) (by assumption) ?rq156
            case yq156 => (intro wq hSw; (try simp only [List.getElem_toArray, List.getElem_cons_zero, List.getElem_cons_succ]); go_simp; (try with_reducible rfl); all_goals (try omega))
            case rq156 =>
            try simp only [Act.put, List.setIfInBounds_toArray, List.set_cons_zero, List.set_cons_succ, List.getElem_toArray, List.getElem_cons_zero, List.getElem_cons_succ]
            refine wpAnyH_take (i := 7) (v := .int .i64 ((j : Int) - 1)) rfl (by kernel_rfl) (by kernel_rfl) (by kernel_rfl) (fun _ _ _ h => h) (Or.inl ⟨by rfl, ?yq157⟩) (by assumption) ?rq157
            case yq157 => (intro wq hSw; (try simp only [List.getElem_toArray, List.getElem_cons_zero, List.getElem_cons_succ]); go_simp; (try with_reducible rfl); all_goals (try omega))
            case rq157 =>
            try simp only [Act.put, List.setIfInBounds_toArray, List.set_cons_zero, List.set_cons_succ, List.getElem_toArray, List.getElem_cons_zero, List.getElem_cons_succ]
            refine wpAnyH_take (i := 8) (v := .pointer (some ⟨g, (j - 1) * 34, none⟩)) rfl (by kernel_rfl) (by kernel_rfl) (by kernel_rfl) (fun _ _ _ h => h) (Or.inl ⟨by rfl, ?yq158⟩) (by assumption) ?rq158
            case yq158 => (intro wq hSw; (try simp only [List.getElem_toArray, List.getElem_cons_zero, List.getElem_cons_succ]); go_simp; (try with_reducible rfl); all_goals (try omega))
            case rq158 =>
            try simp only [Act.put, List.setIfInBounds_toArray, List.set_cons_zero, List.set_cons_succ, List.getElem_toArray, List.getElem_cons_zero, List.getElem_cons_succ]
            refine wpAnyH_take (i := 10) (v := .slice (some ⟨g, 0, none⟩) n c) rfl (by kernel_rfl) (by kernel_rfl) (by kernel_rfl) (fun _ _ _ h => h) (Or.inl ⟨by rfl, ?yq159⟩) (by assumption) ?rq159
            case yq159 => (intro wq hSw; (try simp only [List.getElem_toArray, List.getElem_cons_zero, List.getElem_cons_succ]); go_simp; (try with_reducible rfl); all_goals (try omega))
            case rq159 =>
            try simp only [Act.put, List.setIfInBounds_toArray, List.set_cons_zero, List.set_cons_succ, List.getElem_toArray, List.getElem_cons_zero, List.getElem_cons_succ]
            refine wpAnyH_take (i := 11) (v := .int .i64 (j : Int)) rfl (by kernel_rfl) (by kernel_rfl) (by kernel_rfl) (fun _ _ _ h => h) (Or.inl ⟨by rfl, ?yq160⟩) (by assumption) ?rq160
            case yq160 => (intro wq hSw; (try simp only [List.getElem_toArray, List.getElem_cons_zero, List.getElem_cons_succ]); go_simp; (try with_reducible rfl); all_goals (try omega))
            case rq160 =>
            try simp only [Act.put, List.setIfInBounds_toArray, List.set_cons_zero, List.set_cons_succ, List.getElem_toArray, List.getElem_cons_zero, List.getElem_cons_succ]
            refine wpAnyH_take (i := 12) (v := .pointer (some ⟨g, j * 34, none⟩)) rfl (by kernel_rfl) (by kernel_rfl) (by kernel_rfl) (fun _ _ _ h => h) (Or.inl ⟨by rfl, ?yq161⟩) (by assumption) ?rq161
            case yq161 => (intro wq hSw; (try simp only [List.getElem_toArray, List.getElem_cons_zero, List.getElem_cons_succ]); go_simp; (try with_reducible rfl); all_goals (try omega))
            case rq161 =>
            try simp only [Act.put, List.setIfInBounds_toArray, List.set_cons_zero, List.set_cons_succ, List.getElem_toArray, List.getElem_cons_zero, List.getElem_cons_succ]
            refine wpAnyH_ready (rs := [9, 13]) (by kernel_rfl) (by simp) ?_
            refine AllReadyH.cons rfl (fun K hK => ?_) (AllReadyH.cons rfl (fun K hK => ?_) AllReadyH.nil)
            · rw [if_pos (by rfl)]
              refine wp_load_mid 37 _ rfl g ((j - 1) * 34) (by first | rfl | simp) y.vals _ hSy Tryd.underlying37 rfl (by rw [hy.vlen]; exact info37) ?_
              refine hK.out _ _ trivial (fun _ => ?_)
              clear hK K
              try simp only [Act.put, List.setIfInBounds_toArray, List.set_cons_zero, List.set_cons_succ, List.getElem_toArray, List.getElem_cons_zero, List.getElem_cons_succ]
              refine wpAnyH_ready (rs := [13]) (by kernel_rfl) (by simp) ?_
              refine AllReadyH.cons rfl (fun K hK => ?_) AllReadyH.nil
              rw [if_pos (by rfl)]
              refine wp_load_mid 37 _ rfl g (j * 34) (by first | rfl | simp) x.vals _ hSx Tryd.underlying37 rfl (by rw [hx.vlen]; exact info37) ?_
              refine hK.out _ _ trivial (fun _ => ?_)
              clear hK K
              try simp only [Act.put, List.setIfInBounds_toArray, List.set_cons_zero, List.set_cons_succ, List.getElem_toArray, List.getElem_cons_zero, List.getElem_cons_succ]
              refine wpAnyH_take (i := 14) (v := .pointer (some ⟨g, j * 34, none⟩)) rfl (by kernel_rfl) (by kernel_rfl) (by kernel_rfl) (fun _ _ _ h => h) (Or.inl ⟨by rfl, ?yq46⟩) (by assumption) ?rq46
              case yq46 => (intro wq hSw; (try simp only [List.getElem_toArray, List.getElem_cons_zero, List.getElem_cons_succ]); go_simp; (try with_reducible rfl); all_goals (try omega))
              case rq46 =>
              try simp only [Act.put, List.setIfInBounds_toArray, List.set_cons_zero, List.set_cons_succ, List.getElem_toArray, List.getElem_cons_zero, List.getElem_cons_succ]
              refine wpAnyH_ready (rs := [15]) (by kernel_rfl) (by simp) ?_
              refine AllReadyH.cons rfl (fun K hK => ?_) AllReadyH.nil
              rw [if_pos (by rfl)]
              refine wp_store_mid 37 (.tmp 51) (.tmp 46) rfl g (j * 34) y.vals.toArray (by first | rfl | simp) rfl (by simpa [hy.vlen] using HRBd.out.there j (by rw [HLn.out]; omega)) (info37v hy) (all_oneCell_toArray y.vals_one) ?_
              have hset := HRBd.out.set j (by rw [HLn.out]; omega) y hy
              have tS := turn_setCells g y.vals (j * 34) wd
              rw [show y.vals.toArray.toList = y.vals from rfl]
              generalize wd.setCells g (j * 34) y.vals = w5 at *
              have HS5 := Lib.hid hset
              have HT5 := Lib.hid (HTd.out.trans tS (fun _ _ h => h))
              clear hset tS
              refine hK.out _ _ trivial (fun _ => ?_)
              clear hK K
              try simp only [Act.put, List.setIfInBounds_toArray, List.set_cons_zero, List.set_cons_succ, List.getElem_toArray, List.getElem_cons_zero, List.getElem_cons_succ]
              refine wpAnyH_take (i := 16) (v := .pointer (some ⟨g, (j - 1) * 34, none⟩)) rfl (by kernel_rfl) (by kernel_rfl) (by kernel_rfl) (fun _ _ _ h => h) (Or.inl ⟨by rfl, ?yq47⟩) (by assumption) ?rq47
              case yq47 => (intro wq hSw; (try simp only [List.getElem_toArray, List.getElem_cons_zero, List.getElem_cons_succ]); go_simp; (try with_reducible rfl); all_goals (try omega))
              case rq47 =>
              try simp only [Act.put, List.setIfInBounds_toArray, List.set_cons_zero, List.set_cons_succ, List.getElem_toArray, List.getElem_cons_zero, List.getElem_cons_succ]
              refine wpAnyH_ready (rs := [17]) (by kernel_rfl) (by simp) ?_
              refine AllReadyH.cons rfl (fun K hK => ?_) AllReadyH.nil
              rw [if_pos (by rfl)]
              refine wp_store_mid 37 (.tmp 52) (.tmp 50) rfl g ((j - 1) * 34) x.vals.toArray (by first | rfl | simp) rfl (by simpa [hx.vlen] using HS5.out.there (j - 1) (by simp [HLn.out]; omega)) (info37v hx) (all_oneCell_toArray x.vals_one) ?_
              have hset := HS5.out.set (j - 1) (by simp [HLn.out]; omega) x hx
              have tS := turn_setCells g x.vals ((j - 1) * 34) w5
              rw [show x.vals.toArray.toList = x.vals from rfl]
              generalize w5.setCells g ((j - 1) * 34) x.vals = w6 at *
              have HS6 := Lib.hid hset
              have HT6 := Lib.hid (HT5.out.trans tS (fun _ _ h => h))
              clear hset tS
              refine hK.out _ _ trivial (fun _ => ?_)
              clear hK K
              try simp only [Act.put, List.setIfInBounds_toArray, List.set_cons_zero, List.set_cons_succ, List.getElem_toArray, List.getElem_cons_zero, List.getElem_cons_succ]
              refine wpAnyH_done (by kernel_rfl) ?_ _
              clear hHeld
              go_wp2_with fail
              go_roundw
              case rel =>
                refine ⟨j - 1, by omega, by rw [show ((j - 1 : Nat) : Int) = (j : Int) - 1 by omega], _, ?_, HS6.out, HT6.out⟩
                have h9 := HJ.out.down hj0 hji (by omega) hn12 (by rw [HXE.out, HYE.out]; exact HLT.out)
                rw [HXE.out, HYE.out] at h9
                exact h9
              case measure => simp [intOf]; omega
            · rw [if_pos (by rfl)]
              refine wp_load_mid 37 _ rfl g (j * 34) (by first | rfl | simp) x.vals _ hSx Tryd.underlying37 rfl (by rw [hx.vlen]; exact info37) ?_
              refine hK.out _ _ trivial (fun _ => ?_)
              clear hK K
              try simp only [Act.put, List.setIfInBounds_toArray, List.set_cons_zero, List.set_cons_succ, List.getElem_toArray, List.getElem_cons_zero, List.getElem_cons_succ]
              refine wpAnyH_ready (rs := [9]) (by kernel_rfl) (by simp) ?_
              refine AllReadyH.cons rfl (fun K hK => ?_) AllReadyH.nil
              rw [if_pos (by rfl)]
              refine wp_load_mid 37 _ rfl g ((j - 1) * 34) (by first | rfl | simp) y.vals _ hSy Tryd.underlying37 rfl (by rw [hy.vlen]; exact info37) ?_
              refine hK.out _ _ trivial (fun _ => ?_)
              clear hK K
              try simp only [Act.put, List.setIfInBounds_toArray, List.set_cons_zero, List.set_cons_succ, List.getElem_toArray, List.getElem_cons_zero, List.getElem_cons_succ]
              refine wpAnyH_take (i := 14) (v := .pointer (some ⟨g, j * 34, none⟩)) rfl (by kernel_rfl) (by kernel_rfl) (by kernel_rfl) (fun _ _ _ h => h) (Or.inl ⟨by rfl, ?yq48⟩) (by assumption) ?rq48
              case yq48 => (intro wq hSw; (try simp only [List.getElem_toArray, List.getElem_cons_zero, List.getElem_cons_succ]); go_simp; (try with_reducible rfl); all_goals (try omega))
              case rq48 =>
              try simp only [Act.put, List.setIfInBounds_toArray, List.set_cons_zero, List.set_cons_succ, List.getElem_toArray, List.getElem_cons_zero, List.getElem_cons_succ]
              refine wpAnyH_ready (rs := [15]) (by kernel_rfl) (by simp) ?_
              refine AllReadyH.cons rfl (fun K hK => ?_) AllReadyH.nil
              rw [if_pos (by rfl)]
              refine wp_store_mid 37 (.tmp 51) (.tmp 46) rfl g (j * 34) y.vals.toArray (by first | rfl | simp) rfl (by simpa [hy.vlen] using HRBd.out.there j (by rw [HLn.out]; omega)) (info37v hy) (all_oneCell_toArray y.vals_one) ?_
              have hset := HRBd.out.set j (by rw [HLn.out]; omega) y hy
              have tS := turn_setCells g y.vals (j * 34) wd
              rw [show y.vals.toArray.toList = y.vals from rfl]
              generalize wd.setCells g (j * 34) y.vals = w5 at *
              have HS5 := Lib.hid hset
              have HT5 := Lib.hid (HTd.out.trans tS (fun _ _ h => h))
              clear hset tS
              refine hK.out _ _ trivial (fun _ => ?_)
              clear hK K
              try simp only [Act.put, List.setIfInBounds_toArray, List.set_cons_zero, List.set_cons_succ, List.getElem_toArray, List.getElem_cons_zero, List.getElem_cons_succ]
              refine wpAnyH_take (i := 16) (v := .pointer (some ⟨g, (j - 1) * 34, none⟩)) rfl (by kernel_rfl) (by kernel_rfl) (by kernel_rfl) (fun _ _ _ h => h) (Or.inl ⟨by rfl, ?yq49⟩) (by assumption) ?rq49
              case yq49 => (intro wq hSw; (try simp only [List.getElem_toArray, List.getElem_cons_zero, List.getElem_cons_succ]); go_simp; (try with_reducible rfl); all_goals (try omega))
              case rq49 =>
              try simp only [Act.put, List.setIfInBounds_toArray, List.set_cons_zero, List.set_cons_succ, List.getElem_toArray, List.getElem_cons_zero, List.getElem_cons_succ]
              refine wpAnyH_ready (rs := [17]) (by kernel_rfl) (by simp) ?_
              refine AllReadyH.cons rfl (fun K hK => ?_) AllReadyH.nil
              rw [if_pos (by rfl)]
              refine wp_store_mid 37 (.tmp 52) (.tmp 50) rfl g ((j - 1) * 34) x.vals.toArray (by first | rfl | simp) rfl (by simpa [hx.vlen] using HS5.out.there (j - 1) (by simp [HLn.out]; omega)) (info37v hx) (all_oneCell_toArray x.vals_one) ?_
              have hset := HS5.out.set (j - 1) (by simp [HLn.out]; omega) x hx
              have tS := turn_setCells g x.vals ((j - 1) * 34) w5
              rw [show x.vals.toArray.toList = x.vals from rfl]
              generalize w5.setCells g ((j - 1) * 34) x.vals = w6 at *
              have HS6 := Lib.hid hset
              have HT6 := Lib.hid (HT5.out.trans tS (fun _ _ h => h))
              clear hset tS
              refine hK.out _ _ trivial (fun _ => ?_)
              clear hK K
              try simp only [Act.put, List.setIfInBounds_toArray, List.set_cons_zero, List.set_cons_succ, List.getElem_toArray, List.getElem_cons_zero, List.getElem_cons_succ]
              refine wpAnyH_done (by kernel_rfl) ?_ _
              clear hHeld
              go_wp2_with fail
              go_roundw
              case rel =>
                refine ⟨j - 1, by omega, by rw [show ((j - 1 : Nat) : Int) = (j : Int) - 1 by omega], _, ?_, HS6.out, HT6.out⟩
                have h9 := HJ.out.down hj0 hji (by omega) hn12 (by rw [HXE.out, HYE.out]; exact HLT.out)
                rw [HXE.out, HYE.out] at h9
                exact h9
              case measure => simp [intOf]; omega
          · rw [decide_eq_false hc]
            have HGE := Lib.hid (show cmpR y x ≤ 0 by have := cmpR_flip x y; omega)
            clear hc hSx4 hSy4
            go_wp2_with fail
            go_roundw
            case rel => exact ⟨i + 1, rs, by omega, .inl (by omega), by go_num, HJ.out.done hji (.inr (by rw [HXE.out, HYE.out]; exact HGE.out)), HRB4.out, HTr4.out⟩
            case measure => simp [intOf]; omega
        · obtain rfl : j = 0 := by omega
          go_wp2_with fail
          refine wp_region_held_drew (S := fun _ => True) (by kernel_rfl) trivial (fun hHeld => ?_)
          refine wpAnyH_take (i := 0) (v := .int .i64 0) rfl (by kernel_rfl) (by kernel_rfl) (by kernel_rfl) (fun _ _ _ h => h) (Or.inl ⟨by rfl, ?yq17⟩) (by assumption) ?rq17
          case yq17 => (intro wq hSw; (try simp only [List.getElem_toArray, List.getElem_cons_zero, List.getElem_cons_succ]); go_simp; (try with_reducible rfl); all_goals (try omega))
          case rq17 =>
          try simp only [Act.put, List.setIfInBounds_toArray, List.set_cons_zero, List.set_cons_succ, List.getElem_toArray, List.getElem_cons_zero, List.getElem_cons_succ]
          refine wpAnyH_take (i := 1) (v := .int .i64 0) rfl (by kernel_rfl) (by kernel_rfl) (by kernel_rfl) (fun _ _ _ h => h) (Or.inl ⟨by rfl, ?yq18⟩) (by assumption) ?rq18
          case yq18 => (intro wq hSw; (try simp only [List.getElem_toArray, List.getElem_cons_zero, List.getElem_cons_succ]); go_simp; (try with_reducible rfl); all_goals (try omega))
          case rq18 =>
          try simp only [Act.put, List.setIfInBounds_toArray, List.set_cons_zero, List.set_cons_succ, List.getElem_toArray, List.getElem_cons_zero, List.getElem_cons_succ]
          refine wpAnyH_take (i := 2) (v := .bool false) rfl (by kernel_rfl) (by kernel_rfl) (by kernel_rfl) (fun _ _ _ h => h) (Or.inl ⟨by rfl, ?yq19⟩) (by assumption) ?rq19
          case yq19 => (intro wq hSw; (try simp only [List.getElem_toArray, List.getElem_cons_zero, List.getElem_cons_succ]); go_simp; (try with_reducible rfl); all_goals (try omega))
          case rq19 =>
          try simp only [Act.put, List.setIfInBounds_toArray, List.set_cons_zero, List.set_cons_succ, List.getElem_toArray, List.getElem_cons_zero, List.getElem_cons_succ]
          refine wpAnyH_take (i := 3) (v := .bool false) rfl (by kernel_rfl) (by kernel_rfl) (by kernel_rfl) (fun _ _ _ h => h) (Or.inl ⟨by rfl, ?yq20⟩) (by assumption) ?rq20
          case yq20 => (intro wq hSw; (try simp only [List.getElem_toArray, List.getElem_cons_zero, List.getElem_cons_succ]); go_simp; (try with_reducible rfl); all_goals (try omega))
          case rq20 =>
          try simp only [Act.put, List.setIfInBounds_toArray, List.set_cons_zero, List.set_cons_succ, List.getElem_toArray, List.getElem_cons_zero, List.getElem_cons_succ]
          refine wpAnyH_take (i := 4) (v := undef) rfl (by kernel_rfl) (by kernel_rfl) (by kernel_rfl) (fun _ _ _ h => h) (Or.inr ⟨by rfl, rfl⟩) (by assumption) ?rq21
          case rq21 =>
          try simp only [Act.put, List.setIfInBounds_toArray, List.set_cons_zero, List.set_cons_succ, List.getElem_toArray, List.getElem_cons_zero, List.getElem_cons_succ]
          refine wpAnyH_take (i := 5) (v := undef) rfl (by kernel_rfl) (by kernel_rfl) (by kernel_rfl) (fun _ _ _ h => h) (Or.inr ⟨by rfl, rfl⟩) (by assumption) ?rq22
          case rq22 =>
          try simp only [Act.put, List.setIfInBounds_toArray, List.set_cons_zero, List.set_cons_succ, List.getElem_toArray, List.getElem_cons_zero, List.getElem_cons_succ]
          refine wpAnyH_take (i := 6) (v := undef) rfl (by kernel_rfl) (by kernel_rfl) (by kernel_rfl) (fun _ _ _ h => h) (Or.inr ⟨by rfl, rfl⟩) (by assumption) ?rq23
          case rq23 =>
          try simp only [Act.put, List.setIfInBounds_toArray, List.set_cons_zero, List.set_cons_succ, List.getElem_toArray, List.getElem_cons_zero, List.getElem_cons_succ]
          refine wpAnyH_take (i := 7) (v := undef) rfl (by kernel_rfl) (by kernel_rfl) (by kernel_rfl) (fun _ _ _ h => h) (Or.inr ⟨by rfl, rfl⟩) (by assumption) ?rq24
          case rq24 =>
          try simp only [Act.put, List.setIfInBounds_toArray, List.set_cons_zero, List.set_cons_succ, List.getElem_toArray, List.getElem_cons_zero, List.getElem_cons_succ]
          refine wpAnyH_take (i := 8) (v := undef) rfl (by kernel_rfl) (by kernel_rfl) (by kernel_rfl) (fun _ _ _ h => h) (Or.inr ⟨by rfl, rfl⟩) (by assumption) ?rq25
          case rq25 =>
          try simp only [Act.put, List.setIfInBounds_toArray, List.set_cons_zero, List.set_cons_succ, List.getElem_toArray, List.getElem_cons_zero, List.getElem_cons_succ]
          refine wpAnyH_take (i := 9) (v := undef) rfl (by kernel_rfl) (by kernel_rfl) (by kernel_rfl) (fun _ _ _ h => h) (Or.inr ⟨by rfl, rfl⟩) (by assumption) ?rq26
          case rq26 =>
          try simp only [Act.put, List.setIfInBounds_toArray, List.set_cons_zero, List.set_cons_succ, List.getElem_toArray, List.getElem_cons_zero, List.getElem_cons_succ]
          refine wpAnyH_take (i := 10) (v := undef) rfl (by kernel_rfl) (by kernel_rfl) (by kernel_rfl) (fun _ _ _ h => h) (Or.inr ⟨by rfl, rfl⟩) (by assumption) ?rq27
          case rq27 =>
          try simp only [Act.put, List.setIfInBounds_toArray, List.set_cons_zero, List.set_cons_succ, List.getElem_toArray, List.getElem_cons_zero, List.getElem_cons_succ]
          refine wpAnyH_take (i := 11) (v := undef) rfl (by kernel_rfl) (by kernel_rfl) (by kernel_rfl) (fun _ _ _ h => h) (Or.inr ⟨by rfl, rfl⟩) (by assumption) ?rq28
          case rq28 =>
          try simp only [Act.put, List.setIfInBounds_toArray, List.set_cons_zero, List.set_cons_succ, List.getElem_toArray, List.getElem_cons_zero, List.getElem_cons_succ]
          refine wpAnyH_take (i := 12) (v := undef) rfl (by kernel_rfl) (by kernel_rfl) (by kernel_rfl) (fun _ _ _ h => h) (Or.inr ⟨by rfl, rfl⟩) (by assumption) ?rq29
          case rq29 =>
          try simp only [Act.put, List.setIfInBounds_toArray, List.set_cons_zero, List.set_cons_succ, List.getElem_toArray, List.getElem_cons_zero, List.getElem_cons_succ]
          refine wpAnyH_take (i := 13) (v := undef) rfl (by kernel_rfl) (by kernel_rfl) (by kernel_rfl) (fun _ _ _ h => h) (Or.inr ⟨by rfl, rfl⟩) (by assumption) ?rq30
          case rq30 =>
          try simp only [Act.put, List.setIfInBounds_toArray, List.set_cons_zero, List.set_cons_succ, List.getElem_toArray, List.getElem_cons_zero, List.getElem_cons_succ]
          refine wpAnyH_take (i := 14) (v := undef) rfl (by kernel_rfl) (by kernel_rfl) (by kernel_rfl) (fun _ _ _ h => h) (Or.inr ⟨by rfl, rfl⟩) (by assumption) ?rq31
          case rq31 =>
          try simp only [Act.put, List.setIfInBounds_toArray, List.set_cons_zero, List.set_cons_succ, List.getElem_toArray, List.getElem_cons_zero, List.getElem_cons_succ]
          refine wpAnyH_take (i := 15) (v := undef) rfl (by kernel_rfl) (by kernel_rfl) (by kernel_rfl) (fun _ _ _ h => h) (Or.inr ⟨by rfl, rfl⟩) (by assumption) ?rq32
          case rq32 =>
          try simp only [Act.put, List.setIfInBounds_toArray, List.set_cons_zero, List.set_cons_succ, List.getElem_toArray, List.getElem_cons_zero, List.getElem_cons_succ]
          refine wpAnyH_take (i := 16) (v := .bool false) rfl (by kernel_rfl) (by kernel_rfl) (by kernel_rfl) (fun _ _ _ h => h) (Or.inl ⟨by rfl, ?yq33⟩) (by assumption) ?rq33
          case yq33 => (intro wq hSw; (try simp only [List.getElem_toArray, List.getElem_cons_zero, List.getElem_cons_succ]); go_simp; (try with_reducible rfl); all_goals (try omega))
          case rq33 =>
          try simp only [Act.put, List.setIfInBounds_toArray, List.set_cons_zero, List.set_cons_succ, List.getElem_toArray, List.getElem_cons_zero, List.getElem_cons_succ]
          refine wpAnyH_done (by kernel_rfl) ?_ _
          clear hHeld
          go_wp2_with fail
          go_roundw
          case rel => exact ⟨i + 1, rs, by omega, .inl (by omega), by go_num, HJ.out.done hji (.inl rfl), HRBr.out.turn (Turn.refl (fun _ => False) wr).drew id, HTr.out.drew⟩
          case measure => simp [intOf]; omega
    · have hd1 : decide ((i : Int) < (n : Int)) = false := decide_eq_false (by omega)
      go_wp2_with fail
      go_end0
      exact ⟨⟨_, rfl⟩, rs, ⟨HI.out.len, HI.out.perm, fun p q h1 h2 => HI.out.srt p q h1 (by omega)⟩, HRBr.out, HTr.out⟩
end Go.Proofs.YtnenkclihgeacaaDoor
/- Own contracts: all refs. No statement is proved here. -/
namespace Go.Proofs.YtnenkclihgeacaaDoor
set_option maxRecDepth 100000
open Go.RowKit
set_option linter.unusedVariables false
set_option linter.unusedSimpArgs false

theorem len64_0 (w : World) : Calls Tryd.prog 84 #[.int .u64 0] w fun e w' => e = .returned (.int .i64 0) ∧ w' = w := by
  go_enter Tryd.func84, Tryd.ntmps84
  go_wp2_with fail
  go_ret
  exact ⟨by kernel_rfl, rfl⟩
theorem len64_1 (w : World) : Calls Tryd.prog 84 #[.int .u64 1] w fun e w' => e = .returned (.int .i64 1) ∧ w' = w := by
  go_enter Tryd.func84, Tryd.ntmps84
  go_wp2_with fail
  go_ret
  exact ⟨by kernel_rfl, rfl⟩
theorem len64_2 (w : World) : Calls Tryd.prog 84 #[.int .u64 2] w fun e w' => e = .returned (.int .i64 2) ∧ w' = w := by
  go_enter Tryd.func84, Tryd.ntmps84
  go_wp2_with fail
  go_ret
  exact ⟨by kernel_rfl, rfl⟩
theorem len64_3 (w : World) : Calls Tryd.prog 84 #[.int .u64 3] w fun e w' => e = .returned (.int .i64 2) ∧ w' = w := by
  go_enter Tryd.func84, Tryd.ntmps84
  go_wp2_with fail
  go_ret
  exact ⟨by kernel_rfl, rfl⟩
theorem len64_4 (w : World) : Calls Tryd.prog 84 #[.int .u64 4] w fun e w' => e = .returned (.int .i64 3) ∧ w' = w := by
  go_enter Tryd.func84, Tryd.ntmps84
  go_wp2_with fail
  go_ret
  exact ⟨by kernel_rfl, rfl⟩
theorem len64_5 (w : World) : Calls Tryd.prog 84 #[.int .u64 5] w fun e w' => e = .returned (.int .i64 3) ∧ w' = w := by
  go_enter Tryd.func84, Tryd.ntmps84
  go_wp2_with fail
  go_ret
  exact ⟨by kernel_rfl, rfl⟩
theorem len64_6 (w : World) : Calls Tryd.prog 84 #[.int .u64 6] w fun e w' => e = .returned (.int .i64 3) ∧ w' = w := by
  go_enter Tryd.func84, Tryd.ntmps84
  go_wp2_with fail
  go_ret
  exact ⟨by kernel_rfl, rfl⟩
theorem len64_7 (w : World) : Calls Tryd.prog 84 #[.int .u64 7] w fun e w' => e = .returned (.int .i64 3) ∧ w' = w := by
  go_enter Tryd.func84, Tryd.ntmps84
  go_wp2_with fail
  go_ret
  exact ⟨by kernel_rfl, rfl⟩
theorem len64_8 (w : World) : Calls Tryd.prog 84 #[.int .u64 8] w fun e w' => e = .returned (.int .i64 4) ∧ w' = w := by
  go_enter Tryd.func84, Tryd.ntmps84
  go_wp2_with fail
  go_ret
  exact ⟨by kernel_rfl, rfl⟩
theorem len64_9 (w : World) : Calls Tryd.prog 84 #[.int .u64 9] w fun e w' => e = .returned (.int .i64 4) ∧ w' = w := by
  go_enter Tryd.func84, Tryd.ntmps84
  go_wp2_with fail
  go_ret
  exact ⟨by kernel_rfl, rfl⟩
theorem len64_10 (w : World) : Calls Tryd.prog 84 #[.int .u64 10] w fun e w' => e = .returned (.int .i64 4) ∧ w' = w := by
  go_enter Tryd.func84, Tryd.ntmps84
  go_wp2_with fail
  go_ret
  exact ⟨by kernel_rfl, rfl⟩
theorem len64_11 (w : World) : Calls Tryd.prog 84 #[.int .u64 11] w fun e w' => e = .returned (.int .i64 4) ∧ w' = w := by
  go_enter Tryd.func84, Tryd.ntmps84
  go_wp2_with fail
  go_ret
  exact ⟨by kernel_rfl, rfl⟩
theorem len64_12 (w : World) : Calls Tryd.prog 84 #[.int .u64 12] w fun e w' => e = .returned (.int .i64 4) ∧ w' = w := by
  go_enter Tryd.func84, Tryd.ntmps84
  go_wp2_with fail
  go_ret
  exact ⟨by kernel_rfl, rfl⟩
theorem len64_any (n : Nat) (h : n ≤ 12) (w : World) : Calls Tryd.prog 84 #[.int .u64 (n : Int)] w fun e w' => (∃ r, e = .returned (.int .i64 r)) ∧ w' = w := by
  rcases (by omega : n = 0 ∨ n = 1 ∨ n = 2 ∨ n = 3 ∨ n = 4 ∨ n = 5 ∨ n = 6 ∨ n = 7 ∨ n = 8 ∨ n = 9 ∨ n = 10 ∨ n = 11 ∨ n = 12) with rfl | rfl | rfl | rfl | rfl | rfl | rfl | rfl | rfl | rfl | rfl | rfl | rfl
  · exact (len64_0 w).mono (fun e w1 h => ⟨⟨_, h.1⟩, h.2⟩)
  · exact (len64_1 w).mono (fun e w1 h => ⟨⟨_, h.1⟩, h.2⟩)
  · exact (len64_2 w).mono (fun e w1 h => ⟨⟨_, h.1⟩, h.2⟩)
  · exact (len64_3 w).mono (fun e w1 h => ⟨⟨_, h.1⟩, h.2⟩)
  · exact (len64_4 w).mono (fun e w1 h => ⟨⟨_, h.1⟩, h.2⟩)
  · exact (len64_5 w).mono (fun e w1 h => ⟨⟨_, h.1⟩, h.2⟩)
  · exact (len64_6 w).mono (fun e w1 h => ⟨⟨_, h.1⟩, h.2⟩)
  · exact (len64_7 w).mono (fun e w1 h => ⟨⟨_, h.1⟩, h.2⟩)
  · exact (len64_8 w).mono (fun e w1 h => ⟨⟨_, h.1⟩, h.2⟩)
  · exact (len64_9 w).mono (fun e w1 h => ⟨⟨_, h.1⟩, h.2⟩)
  · exact (len64_10 w).mono (fun e w1 h => ⟨⟨_, h.1⟩, h.2⟩)
  · exact (len64_11 w).mono (fun e w1 h => ⟨⟨_, h.1⟩, h.2⟩)
  · exact (len64_12 w).mono (fun e w1 h => ⟨⟨_, h.1⟩, h.2⟩)
theorem len_any (n : Nat) (h : n ≤ 12) (w : World) : Calls Tryd.prog 68 #[.int .u64 (n : Int)] w fun e w' => (∃ r, e = .returned (.int .i64 r)) ∧ w' = w := by
  go_enter Tryd.func68, Tryd.ntmps68
  go_wp2_with fail
  refine (len64_any n h w).mono ?_
  rintro e w1 ⟨⟨r, rfl⟩, h9⟩
  rw [h9]
  go_wp2_with fail
  go_ret
  exact ⟨⟨r, rfl⟩, rfl⟩
def StPost (w : World) (g n : Nat) (rs0 : List Rf) (ex : List Value) (e : Ending) (w' : World) : Prop := (∃ v, e = .returned v) ∧ ∃ rs, InsI rs0 rs n n ∧ RB w' g rs ex ∧ Turn (fun k => k = g) w w'
set_option maxHeartbeats 1600000 in
theorem pdq_any (w : World) (g c n : Nat) (r : Int) (rs0 : List Rf) (ex : List Value) (h : RB w g rs0 ex) (hl : rs0.length = 12) (hn12 : n ≤ 12) (hnc : n ≤ c) : Calls Tryd.prog 67 #[.slice (some ⟨g, 0, none⟩) n c, .int .i64 0, .int .i64 (n : Int), .int .i64 r, .func (.func 49) #[] #[]] w (StPost w g n rs0 ex) := by
  have hd : decide ((n : Int) ≤ 12) = true := decide_eq_true (by omega)
  have hw : IntKind.i64.wrap (n : Int) = (n : Int) := by rw [IntKind.wrap_i64]; omega
  have hw2 : IntKind.i64.wrap ((n : Int) - 0) = (n : Int) := by rw [IntKind.wrap_i64]; omega
  have HI := Lib.hid (insert_any w g c n rs0 ex h hl hn12 hnc)
  clear h hl
  go_enter Tryd.func67, Tryd.ntmps67
  go_wp2_with fail
  refine wp_loop_once ?_
  go_wp2_with fail
  refine HI.out.mono ?_
  rintro e w1 ⟨⟨v, rfl⟩, rs, h1, h2, h3⟩
  have H1 := Lib.hid h1
  have H2 := Lib.hid h2
  have H3 := Lib.hid h3
  clear h1 h2 h3
  go_wp2_with fail
  refine bodyPost_ret (results_none rfl _ _ _) rfl ?_
  exact ⟨⟨_, rfl⟩, rs, H1.out, H2.out, H3.out⟩
theorem sort_any (w : World) (g c n : Nat) (rs0 : List Rf) (ex : List Value) (h : RB w g rs0 ex) (hl : rs0.length = 12) (hn12 : n ≤ 12) (hnc : n ≤ c) : Calls Tryd.prog 48 #[.slice (some ⟨g, 0, none⟩) n c, .func (.func 49) #[] #[]] w (StPost w g n rs0 ex) := by
  have hcv : IntKind.u64.wrap (n : Int) = (n : Int) := by rw [IntKind.wrap_u64]; omega
  have HP := Lib.hid (fun r => pdq_any w g c n r rs0 ex h hl hn12 hnc)
  clear h hl
  go_enter Tryd.func48, Tryd.ntmps48
  go_wp2_with fail
  refine (len_any n hn12 w).mono ?_
  rintro e w1 ⟨⟨r, rfl⟩, h9⟩
  rw [h9]
  clear h9 w1
  go_wp2_with fail
  refine (HP.out r).mono ?_
  rintro e w1 ⟨⟨v, rfl⟩, rs, h1, h2, h3⟩
  have H1 := Lib.hid h1
  have H2 := Lib.hid h2
  have H3 := Lib.hid h3
  clear h1 h2 h3
  go_wp2_with fail
  go_end0
  exact ⟨⟨_, rfl⟩, rs, H1.out, H2.out, H3.out⟩
/-- All refs, rising. -/
def AlPost (w : World) (rs : List Rf) (e : Ending) (w' : World) : Prop :=
  ∃ g c l rest ex, e = .returned (.slice (some ⟨g, 0, none⟩) l.length c) ∧ l.Perm (rs.filter hasN) ∧ (∀ p q, p < q → q < l.length → cmpR (l.getD p rf0) (l.getD q rf0) ≤ 0) ∧ l.length ≤ c ∧ RB w' g (l ++ rest) ex ∧ w.heap.size ≤ g ∧ Turn (fun _ => False) w w'
set_option maxHeartbeats 1600000 in
theorem all_any (w : World) (T J : Nat) (rs : List Rf) (ht : TbAt w T J rs) : Calls Tryd.prog 22 #[.pointer (some ⟨T, 0, none⟩)] w (AlPost w rs) := by
  have HTB := Lib.hid ht
  clear ht
  go_enter Tryd.func22, Tryd.ntmps22
  go_wp2_with fail
  refine (clone46_any w T J rs HTB.out).mono ?_
  rintro e w1 ⟨g, c, ex, rfl, hc, hrb, hg, t1⟩
  have HRB := Lib.hid hrb
  have HT1 := Lib.hid t1
  clear hrb t1
  go_wp2_with fail
  refine (delete_any w1 g c rs ex HRB.out HTB.out.len hc).mono ?_
  rintro e w2 ⟨rs', rfl, hl', htk, hrb', t2⟩
  have hle : (rs.filter hasN).length ≤ 12 := by rw [← HTB.out.len]; exact List.length_filter_le _ _
  obtain ⟨n, hn⟩ : ∃ n, (rs.filter hasN).length = n := ⟨_, rfl⟩
  rw [hn] at htk hle ⊢
  have HN := Lib.hid hn
  have HTK := Lib.hid htk
  have HL' := Lib.hid hl'
  have HRB' := Lib.hid hrb'
  have HT2 := Lib.hid (HT1.out.trans t2 (fun q hq e => by omega))
  clear hn htk hl' hrb' t2
  go_wp2_with fail
  refine (sort_any w2 g c n rs' ex HRB'.out HL'.out hle (by omega)).mono ?_
  rintro e w3 ⟨⟨v, rfl⟩, rs3, h1, h2, h3⟩
  have H1 := Lib.hid h1
  have H2 := Lib.hid h2
  have HT3 := Lib.hid (HT2.out.trans h3 (fun q hq e => by omega))
  clear h1 h2 h3
  go_wp2_with fail
  go_ret
  have hln : (rs3.take n).length = n := by have := H1.out.len; simp; omega
  refine ⟨g, c, rs3.take n, rs3.drop n, ex, by rw [hln]; rfl, ?_, fun p q hpq hq => ?_, by omega, by rw [List.take_append_drop]; exact H2.out, hg, HT3.out⟩
  · have := H1.out.perm
    rwa [HTK.out] at this
  · rw [hln] at hq
    have e1 : ∀ k, k < n → (rs3.take n).getD k rf0 = rs3.getD k rf0 := fun k hk => by simp [List.getD, List.getElem?_take, hk]
    rw [e1 p (by omega), e1 q hq]
    exact H1.out.srt p q hpq hq
end Go.Proofs.YtnenkclihgeacaaDoor
/- Own contracts: the document's example. No statement is proved here. -/
namespace Go.Proofs.YtnenkclihgeacaaDoor
set_option maxRecDepth 100000
open Go.RowKit
set_option linter.unusedVariables false
set_option linter.unusedSimpArgs false

theorem wpList_load_want {P : Program} {ops : Array Oper} {rest : List Oper} {op : Oper} {a : Act} {w : World} {Q : Exit → Act → World → Prop} (hw : Region.wanted op (yielded ops a.tmps) = true) (ty : TypeId) (x : Operand) (ho : op.op = .load ty x)
    (b o : Nat) (hx : a.eval x = .pointer (some ⟨b, o, none⟩)) (cs : List Value) (d : TypeDesc) (hc : w.rangeAt b o cs)
    (hu : P.underlying ty = some d) (hd : d.isRow = true) (hi : (P.info? ty).map (·.size) = some cs.length)
    (h : wpList P ops Q rest (a.put op.dst (.agg cs.toArray)) w) : wpList P ops Q (op :: rest) a w := by
  unfold wpList
  rw [if_pos hw]
  exact .inl (wp_load_mid ty x ho b o hx cs d hc hu hd hi h)
theorem list_want {P : Program} {ops : Array Oper} {Q : Exit → Act → World → Prop} {rest : List Oper} {o : Oper} {a : Act} {w : World} (hw : Region.wanted o (yielded ops a.tmps) = true) (v : Value) (w' : World) (he : (execOp a.eval o).run P w = .ok (.value v) w') (h : wpList P ops Q rest (a.put o.dst v) w') : wpList P ops Q (o :: rest) a w := by
  unfold wpList
  rw [if_pos hw]
  refine .inl ?_
  unfold Oper.wp
  rw [he]
  exact h
theorem build37n (s : ByteArray) (w : World) : (Instr.build 37 #[(0, .string s)]).run Tryd.prog w = .ok (.agg (Rf.vals ⟨s, List.replicate 32 0, false⟩).toArray) w := by kernel_rfl
theorem exec_build37n (ev : Operand → Value) (op : Oper) (x : Operand) (ho : op.op = .build 37 #[(0, x)]) (s : ByteArray) (hx : ev x = .string s) (w : World) : (execOp ev op).run Tryd.prog w = .ok (.value (.agg (Rf.vals ⟨s, List.replicate 32 0, false⟩).toArray)) w := by
  unfold execOp
  simp only [ho, List.map_toArray, List.map_cons, List.map_nil, hx, Sem.run_bind, Sem.run_pure, build37n s, Result.andThen_ok]
theorem build35 (b : Int) (w : World) : (Instr.build 35 #[(0, .int .u8 b)]).run Tryd.prog w = .ok (.agg (keyV (b :: List.replicate 31 0)).toArray) w := by kernel_rfl
theorem exec_build35 (ev : Operand → Value) (op : Oper) (x : Operand) (ho : op.op = .build 35 #[(0, x)]) (b : Int) (hx : ev x = .int .u8 b) (w : World) : (execOp ev op).run Tryd.prog w = .ok (.value (.agg (keyV (b :: List.replicate 31 0)).toArray)) w := by
  unfold execOp
  simp only [ho, List.map_toArray, List.map_cons, List.map_nil, hx, Sem.run_bind, Sem.run_pure, build35 b, Result.andThen_ok]
theorem exec_eql35 (ev : Operand → Value) (op : Oper) {a b : Operand} (ho : op.op = .binOp .eql 35 a b 35) (xs ys : List Int) (w : World) (h1 : ev a = .agg (keyV xs).toArray) (h2 : ev b = .agg (keyV ys).toArray) (k1 : xs.length = 32) (k2 : ys.length = 32) : (execOp ev op).run Tryd.prog w = .ok (.value (.bool (xs == ys))) w := by
  have hg : (eqGuard .eql 35 a b (.agg (keyV xs).toArray) (.agg (keyV ys).toArray)).run Tryd.prog w = .ok () w := by simp [eqGuard]
  have hr := run_same 35 32 Tryd.underlying35 xs ys k1 k2 w
  unfold execOp
  unfold keyV at *
  simp only [ho, h1, h2, Sem.run_bind, hr, hg, Result.andThen_ok, Sem.run_pure]
/-- What is there after a write that could not stop. -/
theorem LyPost.ok {w w' : World} {B : Nat} {F : Nat → Prop} {T J D : Nat} {d : DiskM} {L : Nat} {C : List (List Int)} {n : Nat} {rs : List Rf} {i : Nat} {o : Rf} {xs : List Int} {e : Ending} (h : LyPost w B F T J D d L C n rs i o xs e w') (ha : d.armed = false) :
    e = .returned (.int .i64 0) ∧ ∃ F' d' L', LB w' B F' T J D d' L' (putM C [(((48 + i : Nat) : Int), xs)]) n (rs.set i o) ∧ d'.armed = false ∧ Step w (Mn F J T) w' (Mn F' J T) := by
  obtain ⟨r, F', d', L', rfl, hs, hL, ⟨rfl, h1, h2⟩ | ⟨rfl, h1, h2⟩⟩ := h
  · exact ⟨rfl, F', d', L', h1, by rw [h2]; exact ha, hs⟩
  · rw [ha] at h2; cases h2
def one (x : Rf) : List Rf := x :: List.replicate 11 rf0
theorem bl_set (x : Rf) : bl.set 0 x = one x := rfl
theorem one_set (x y : Rf) : (one x).set 0 y = one y := rfl
theorem one_rf0 : one rf0 = bl := rfl
theorem bl_name (s : ByteArray) (hs : s ≠ ByteArray.empty) : bl.findIdx? (nmB s) = none := by
  rw [List.findIdx?_eq_none_iff]
  intro x hx
  rw [List.eq_of_mem_replicate hx]
  exact decide_eq_false (fun h => hs h.symm)
theorem bl_free : bl.findIdx? frB = some 0 := by
  show (rf0 :: List.replicate 11 rf0).findIdx? frB = some 0
  rw [List.findIdx?_cons, show frB rf0 = true from decide_eq_true rfl]
  rfl
theorem one_name (x : Rf) : (one x).findIdx? (nmB x.name) = some 0 := by
  unfold one
  rw [List.findIdx?_cons, show nmB x.name x = true from decide_eq_true rfl]
  rfl
theorem one_get (x : Rf) : (one x).getD 0 rf0 = x := rfl
theorem bl_all : bl.filter hasN = [] := by
  rw [List.filter_eq_nil_iff]
  intro x hx
  rw [List.eq_of_mem_replicate hx]
  simp [hasN, rf0]
def mainS : ByteArray := { data := #[109, 97, 105, 110] }
theorem main_right : rightB mainS = true := by decide
theorem main_ne : mainS ≠ ByteArray.empty := right_ne main_right
def key5 : List Int := 5 :: List.replicate 31 0
theorem key5_len : key5.length = 32 := by simp [key5]
theorem key5_ok : BytesOk key5 := fun x hx => by
  simp only [key5, List.mem_cons] at hx
  rcases hx with rfl | hx
  · omega
  · rw [List.eq_of_mem_replicate hx]; omega
def mainR : Rf := ⟨mainS, List.replicate 32 0, false⟩
theorem mainR_ok : mainR.Ok := ⟨by simp [mainR], fun x hx => by rw [List.eq_of_mem_replicate hx]; omega⟩
theorem mainRk_ok : (mainR.at key5).Ok := ⟨key5_len, key5_ok⟩
theorem one_size (x : Rf) (h : x.name.size ≤ 12) : ∀ y ∈ one x, y.name.size ≤ 12 := fun y hy => by
  simp only [one, List.mem_cons] at hy
  rcases hy with rfl | hy
  · exact h
  · rw [List.eq_of_mem_replicate hy]; simp [rf0]
set_option maxHeartbeats 8000000 in
theorem lawake_any (w : World) (tab : Tab w) : Calls Tryd.prog 9 #[] w fun e w' => e = .returned (.bool true) ∧ Turn (fun _ => False) w w' := by
  have HTAB := Lib.hid tab
  clear tab
  have hmn : ({ data := #[109, 97, 105, 110] } : ByteArray) = mainS := rfl
  go_enter Tryd.func9, Tryd.ntmps9
  go_wp2_with fail
  refine (fresh_any w 600 HTAB.out (by omega)).mono ?_
  rintro e w1 ⟨D, T, J, F, d, L, rfl, hlb, ha, hL, t1⟩
  have HLB := Lib.hid hlb
  have HT1 := Lib.hid t1
  clear hlb t1 hL
  go_wp2_with (with_reducible (show wpList _ _ _ (Oper.mk (some 16) (.build 37 _) _ _ _ _ :: _) _ _); refine still ?_)
  refine list_exec rfl _ _ (exec_build37n _ _ _ rfl mainS rfl _) ?_
  go_wp2_with fail
  refine (make_any w1 w.heap.size F T J D d L blankC 400 bl mainR HLB.out mainR_ok).mono ?_
  intro e w2 hmk
  rcases hmk with ⟨h1, _⟩ | ⟨_, h1, _⟩ | ⟨_, _, h1, _⟩ | ⟨_, _, i, h1, hi12, hly⟩
  · rw [show mainR.name = mainS from rfl, main_right] at h1; cases h1
  · exact absurd (bl_name mainS main_ne) h1
  · rw [bl_free] at h1; cases h1
  rw [bl_free] at h1
  cases h1
  obtain ⟨rfl, F2, d2, L2, hlb2, ha2, hs2⟩ := hly.ok ha
  rw [bl_set] at hlb2
  have HLB2 := Lib.hid hlb2
  have HT2 := Lib.hid (show Turn (fun _ => False) w w2 from HT1.out.trans hs2.turn (fun k hk e => by have := HLB.out.bM k e; omega))
  clear hlb2 hs2 hly
  generalize putM blankC _ = C2 at HLB2
  go_wp2_with (with_reducible (show wpList _ _ _ (Oper.mk (some 19) (.build 35 _) _ _ _ _ :: _) _ _); refine still ?_)
  refine list_exec rfl _ _ (exec_build35 _ _ _ rfl 5 rfl _) ?_
  go_wp2_with fail
  refine (move_any w2 w.heap.size F2 T J D d2 L2 C2 200 (one mainR) mainS key5 HLB2.out (one_size mainR (right_size main_right).2) key5_len key5_ok).mono ?_
  intro e w3 hmv
  rcases hmv with ⟨h1, _⟩ | ⟨_, i, h1, _, h2, _⟩ | ⟨_, i, h1, hi12', _, hly⟩
  · rcases h1 with h1 | h1
    · exact absurd h1 main_ne
    · rw [show mainS = mainR.name from rfl, one_name] at h1; cases h1
  · rw [show mainS = mainR.name from rfl, one_name] at h1; cases h1
    cases h2
  rw [show mainS = mainR.name from rfl, one_name] at h1
  cases h1
  rw [one_get] at hly
  obtain ⟨rfl, F3, d3, L3, hlb3, ha3, hs3⟩ := hly.ok ha2
  rw [one_set] at hlb3
  have HLB3 := Lib.hid hlb3
  have HT3 := Lib.hid (show Turn (fun _ => False) w w3 from HT2.out.trans hs3.turn (fun k hk e => by have := HLB2.out.bM k e; omega))
  clear hlb3 hs3 hly
  generalize putM C2 _ = C3 at HLB3
  go_wp2_with fail
  refine (get_any w3 T J (one (mainR.at key5)) mainS HLB3.out.tb).mono ?_
  rintro e w4 ⟨t4, ⟨i, _, h1, _, rfl⟩ | ⟨h1, _⟩⟩
  · rw [show mainS = (mainR.at key5).name from rfl, one_name] at h1
    cases h1
    rw [one_get]
    have HT4 := Lib.hid (HT3.out.trans t4 (fun _ _ => id))
    have HLB4 := Lib.hid (HLB3.out.turn0 t4)
    have hz := zero37
    clear t4
    go_wp2_with (with_reducible (show wpList _ _ _ (Oper.mk none (.store 37 (.tmp 6) (.tmp 24)) _ _ _ _ :: _) _ _); refine still ?_)
    refine list_box w4 37 z37 (mainR.at key5).vals (by rw [mainRk_ok.vlen]; exact rf0_ok.vlen) (mainR.at key5).vals_one (by rw [mainRk_ok.vlen]; exact info37) rfl (.tmp 6) (.tmp 24) rfl rfl rfl (fun w5 hb5 => ?_)
    have hr5 : w5.rangeAt w4.heap.size 1 (keyV key5) := fun j v hj => hb5.cell (1 + j) v (by
      rw [Rf.vals, Nat.add_comm, List.getElem?_cons_succ]
      show (keyV key5 ++ _)[j]? = _
      rw [List.getElem?_append_left (List.getElem?_eq_some_iff.1 hj).1]
      exact hj)
    have HR5 := Lib.hid hr5
    have HT5 := Lib.hid (HT4.out.trans hb5.turn (fun _ _ => id))
    have HLB5 := Lib.hid (HLB4.out.turn0 hb5.turn)
    clear hb5 hr5 hz
    go_wp2_with (with_reducible (show wpList _ _ _ (Oper.mk (some 38) (.load 35 (.tmp 37)) _ _ _ _ :: _) _ _); refine still ?_)
    refine wpList_load_want rfl 35 (.tmp 37) rfl w4.heap.size 1 rfl (keyV key5) _ HR5.out Tryd.underlying35 rfl (by simp [keyV, key5_len, info35]) ?_
    go_wp2_with (with_reducible (show wpList _ _ _ (Oper.mk (some 39) (.build 35 _) _ _ _ _ :: _) _ _); refine still ?_)
    refine list_want rfl _ _ (exec_build35 _ _ _ rfl 5 rfl _) ?_
    go_wp2_with (with_reducible (show wpList _ _ _ (Oper.mk (some 40) (.binOp .eql 35 _ _ 35) _ _ _ _ :: _) _ _); refine still ?_)
    refine list_want rfl _ _ (exec_eql35 _ _ rfl key5 key5 w5 rfl rfl key5_len key5_len) ?_
    rw [show (key5 == key5) = true by simp]
    go_wp2_with fail
    refine (drop_any w5 w.heap.size F3 T J D d3 L3 C3 0 (one (mainR.at key5)) mainS HLB5.out).mono ?_
    intro e w6 hdp
    rcases hdp with ⟨h1, _⟩ | ⟨_, i, h1, hi12'', hly⟩
    · rcases h1 with h1 | h1
      · exact absurd h1 main_ne
      · rw [show mainS = (mainR.at key5).name from rfl, one_name] at h1; cases h1
    rw [show mainS = (mainR.at key5).name from rfl, one_name] at h1
    cases h1
    obtain ⟨rfl, F6, d6, L6, hlb6, ha6, hs6⟩ := hly.ok ha3
    rw [one_set, one_rf0] at hlb6
    have HLB6 := Lib.hid hlb6
    have HT6 := Lib.hid (show Turn (fun _ => False) w w6 from HT5.out.trans hs6.turn (fun k hk e => by have := HLB3.out.bM k e; omega))
    clear hlb6 hs6 hly
    go_wp2_with fail
    refine (all_any w6 T J bl HLB6.out.tb).mono ?_
    rintro e w7 ⟨g, c, l, rest, ex, rfl, hp, _, hlc, _, _, t7⟩
    rw [bl_all] at hp
    obtain rfl : l = [] := List.perm_nil.1 hp
    have HT7 := Lib.hid (HT6.out.trans t7 (fun _ _ => id))
    clear t7 hp
    go_wp2_with fail
    go_ret
    exact ⟨rfl, HT7.out⟩
  · rcases h1 with h1 | h1
    · exact absurd h1 main_ne
    · rw [show mainS = (mainR.at key5).name from rfl, one_name] at h1; cases h1
end Go.Proofs.YtnenkclihgeacaaDoor
/- Own contracts: which names may be; a nil table. No statement is proved here. -/
namespace Go.Proofs.YtnenkclihgeacaaDoor
set_option maxRecDepth 100000
open Go.RowKit
set_option linter.unusedVariables false
set_option linter.unusedSimpArgs false

theorem lrights_walk (s : ByteArray) (W : World) (tab : Tab W) (hs : s.size ≤ 9223372036854775807) : Calls Tryd.prog 3 #[.string s] W fun e w' => e = .returned (.bool true) ∧ Turn (fun _ => False) W w' := by
  have HTAB := Lib.hid tab
  clear tab
  go_enter Tryd.func3, Tryd.ntmps3
  go_wp2_with fail
  refine (lawake_any W HTAB.out).mono ?_
  rintro e w1 ⟨rfl, t1⟩
  have HT1 := Lib.hid t1
  clear t1
  go_wp2_with fail
  refine (right_any s w1).mono ?_
  rintro e w2 ⟨rfl, t2⟩
  have HT2 := Lib.hid (HT1.out.trans t2 (fun _ _ => id))
  clear t2
  obtain ⟨b, hb⟩ : ∃ b, rightB s = b := ⟨_, rfl⟩
  have hr := lright_any s w2 hs
  rw [hb] at hr ⊢
  have HR := Lib.hid hr
  clear hr hb
  go_wp2_with fail
  refine HR.out.mono ?_
  rintro e w3 ⟨rfl, rfl⟩
  cases b
  · go_wp2_with fail
    go_ret
    exact ⟨rfl, HT2.out⟩
  · go_wp2_with fail
    go_ret
    exact ⟨rfl, HT2.out⟩
theorem make_nil (o : Rf) (w : World) : Calls Tryd.prog 19 #[.pointer none, .agg o.vals.toArray] w fun e w' => e = .returned (.int .i64 2) ∧ Turn (fun _ => False) w w' := by
  have hb := box_alloc w 37 o.vals
  obtain ⟨w1, hw1⟩ : ∃ w1, w.alloc (.cells o.vals.toArray 37) = w1 := ⟨_, rfl⟩
  rw [hw1] at hb
  have HB := Lib.hid hb
  clear hb
  go_enter Tryd.func19, Tryd.ntmps19
  go_wp2_with fail
  go_ret
  exact ⟨rfl, HB.out.turn⟩
theorem move_nil (s : ByteArray) (ks : List Int) (w : World) : Calls Tryd.prog 14 #[.pointer none, .string s, .agg (keyV ks).toArray] w fun e w' => e = .returned (.int .i64 2) ∧ Turn (fun _ => False) w w' := by
  have hb := box_alloc w 35 (keyV ks)
  obtain ⟨w1, hw1⟩ : ∃ w1, w.alloc (.cells (keyV ks).toArray 35) = w1 := ⟨_, rfl⟩
  rw [hw1] at hb
  have HB := Lib.hid hb
  clear hb
  go_enter Tryd.func14, Tryd.ntmps14
  go_wp2_with fail
  refine (find_none _ w1 (.inl rfl) s (.inl rfl)).mono ?_
  rintro e w2 ⟨rfl, t2⟩
  have HT := Lib.hid (HB.out.turn.trans t2 (fun _ _ => id))
  clear t2
  go_wp2_with fail
  go_ret
  exact ⟨rfl, HT.out⟩
theorem ldrop_nil (s : ByteArray) (w : World) : Calls Tryd.prog 15 #[.pointer none, .string s] w fun e w' => e = .returned (.int .i64 2) ∧ Turn (fun _ => False) w w' := by
  go_enter Tryd.func15, Tryd.ntmps15
  go_wp2_with fail
  refine (find_none _ w (.inl rfl) s (.inl rfl)).mono ?_
  rintro e w2 ⟨rfl, t2⟩
  have HT := Lib.hid t2
  clear t2
  go_wp2_with fail
  go_ret
  exact ⟨rfl, HT.out⟩
theorem all_nil (w : World) : Calls Tryd.prog 22 #[.pointer none] w fun e w' => e = .returned (.slice none 0 0) ∧ w' = w := by
  go_enter Tryd.func22, Tryd.ntmps22
  go_wp2_with fail
  go_ret
  exact ⟨rfl, rfl⟩
set_option maxHeartbeats 4000000 in
theorem lget_nil (s : ByteArray) (w : World) : Calls Tryd.prog 23 #[.pointer none, .string s] w fun e w' => e = .returned (.tuple #[.agg z37.toArray, .int .i64 2]) ∧ Turn (fun _ => False) w w' := by
  have hb := box_alloc w 37 z37
  have hz := zero37
  obtain ⟨w1, hw1⟩ : ∃ w1, w.alloc (.cells z37.toArray 37) = w1 := ⟨_, rfl⟩
  rw [hw1] at hb
  have HB := Lib.hid hb
  clear hb
  go_enter Tryd.func23, Tryd.ntmps23
  go_wp2_with fail
  clear hw1 hz
  refine (find_none _ w1 (.inl rfl) s (.inl rfl)).mono ?_
  rintro e w2 ⟨rfl, t2⟩
  have HT2b := Lib.hid (HB.out.turn.trans t2 (fun _ _ => id))
  have hheap : w2.heap[w.heap.size]? = some (.cells z37.toArray 37 (0, 0)) := (t2.block _ (by rw [HB.out.size]; exact Nat.lt_succ_self _) id).trans HB.out.heap
  have hth : w2.there w.heap.size 0 34 := rf_there rf0_ok hheap
  have HH := Lib.hid hheap
  clear t2 hheap
  go_wp2_with (with_reducible (show wpList _ _ _ (Oper.mk (some 12) (.build 37 #[]) _ _ _ _ :: _) _ _); refine still ?_)
  refine list_exec rfl (.agg z37.toArray) _ (exec_build37 _ _ rfl _) ?_
  go_wp2_with (with_reducible (show wpList _ _ _ (Oper.mk none (.store 37 (.tmp 4) (.tmp 12)) _ _ _ _ :: _) _ _); refine still ?_)
  refine wpList_store_mid rfl 37 (.tmp 4) (.tmp 12) rfl w.heap.size 0 z37.toArray rfl rfl (by simpa [show z37.length = 34 from rf0_ok.vlen] using hth) (info37v rf0_ok) (all_oneCell_toArray rf0.vals_one) ?_
  have tS := turn_setCells w.heap.size z37 0 w2
  have hN := heap_setCells w.heap.size 37 z37 0 w2 z37 HH.out (by omega)
  have hNv : z37.take 0 ++ z37 ++ z37.drop (0 + z37.length) = z37 := by simp
  rw [hNv] at hN
  rw [show z37.toArray.toList = z37 from rfl]
  generalize w2.setCells w.heap.size 0 z37 = w3 at *
  have HN := Lib.hid hN
  have HTS := Lib.hid (HT2b.out.trans tS (fun q hq e => by omega))
  clear hN tS hNv hth
  go_wp2_with fail
  refine bodyPost_ret (got_results w3 w.heap.size rf0 rf0_ok 2 (fun j v hj => by rw [Nat.zero_add, cell_of_row _ _ j _ 37 (0, 0) HN.out]; simpa [z37] using hj) _ rfl rfl) rfl ?_
  exact ⟨rfl, HTS.out⟩
theorem lopen_small (w : World) (F : Nat → Prop) (J D : Nat) (d : DiskM) (L : Nat) (C : List (List Int)) (n : Nat) (hj : JC w F J D d L C n) (hC : C.length ≤ 60) : Calls Tryd.prog 18 #[.pointer (some ⟨J, 0, none⟩)] w fun e w' => e = .returned (.tuple #[.pointer none, .int .i64 1]) ∧ w' = w := by
  have hsec := sectors_h w F J D d L _ n hj
  obtain ⟨Y, hY⟩ : ∃ Y, C.length = Y := ⟨_, rfl⟩
  rw [hY] at hsec hC
  have HS2 := Lib.hid hsec
  have hd : decide ((Y : Int) ≤ 60) = true := decide_eq_true (by omega)
  clear hsec hj hY
  go_enter Tryd.func18, Tryd.ntmps18
  go_wp2_with fail
  refine HS2.out.mono ?_
  rintro e w9 ⟨rfl, rfl⟩
  clear HS2
  go_wp2_with fail
  refine bodyPost_ret (results_tmp2 (t := 2) (u := 3) (by kernel_rfl) _ _ _) rfl ?_
  exact ⟨rfl, rfl⟩
theorem info30 : (Tryd.prog.info? 30).map (·.size) = some 32 := by kernel_rfl
set_option maxHeartbeats 8000000 in
theorem lnil_walk (s : ByteArray) (ks : List Int) (hkl : ks.length = 32) (m : Int) (hm : 0 ≤ m ∧ m < 256) (W : World) (tab : Tab W) : Calls Tryd.prog 6 #[.string s, .agg (keyV ks).toArray, .int .u8 m] W fun e w' => e = .returned (.bool true) ∧ Turn (fun _ => False) W w' := by
  obtain ⟨q, rfl⟩ := Int.eq_ofNat_of_zero_le hm.1
  have hq : q < 256 := by omega
  have h2 : 2 ≤ W.heap.size := tab.1
  have hb := box_alloc W 30 (keyV ks)
  obtain ⟨w0, hw0⟩ : ∃ w0, W.alloc (.cells (keyV ks).toArray 30) = w0 := ⟨_, rfl⟩
  rw [hw0] at hb
  have HB0 := Lib.hid hb
  have HTAB := Lib.hid tab
  have hrem : ((q : Int)).tmod 60 = ((q % 60 : Nat) : Int) := by rw [Int.tmod_eq_emod_of_nonneg (by omega)]; omega
  have hrm2 : (q : Int) % 60 = ((q % 60 : Nat) : Int) := by omega
  have hwr : IntKind.u8.wrap (((q % 60 : Nat) : Int)) = ((q % 60 : Nat) : Int) := by rw [IntKind.wrap_u8]; omega
  have hr60 : q % 60 < 60 := by omega
  obtain ⟨r, hr⟩ : ∃ r, q % 60 = r := ⟨_, rfl⟩
  rw [hr] at hrem hrm2 hwr hr60
  have hcv : IntKind.i64.wrap (r : Int) = (r : Int) := by rw [IntKind.wrap_i64]; omega
  have had : IntKind.i64.wrap (50 + (r : Int)) = 50 + (r : Int) := by rw [IntKind.wrap_i64]; omega
  have hz := zero37
  clear hb tab hr
  go_enter Tryd.func6, Tryd.ntmps6
  go_wp2_with fail
  refine (lget_nil s w0).mono ?_
  rintro e w1 ⟨rfl, t1⟩
  have HT1 := Lib.hid (HB0.out.turn.trans t1 (fun _ _ => id))
  have HK1 := Lib.hid (show w1.rangeAt W.heap.size 0 (keyV ks) from rangeAt_turn HB0.out.range t1 id)
  have HZ1 := Lib.hid (show W.heap.size < w1.heap.size by have := t1.size; have := HB0.out.size; omega)
  clear t1 hw0
  go_wp2_with (with_reducible (show wpList _ _ _ (Oper.mk none (.store 37 (.tmp 8) (.tmp 18)) _ _ _ _ :: _) _ _); refine still ?_)
  refine list_box w1 37 z37 z37 rfl rf0.vals_one (by rw [show z37.length = 34 from rf0_ok.vlen]; exact info37) rfl (.tmp 8) (.tmp 18) rfl rfl rfl (fun w2 hb2 => ?_)
  have HT2 := Lib.hid (HT1.out.trans hb2.turn (fun _ _ => id))
  have HK2 := Lib.hid (show w2.rangeAt W.heap.size 0 (keyV ks) from rangeAt_turn HK1.out hb2.turn id)
  have HZ2 := Lib.hid (Nat.lt_of_lt_of_le HZ1.out hb2.turn.size)
  clear hb2 hz
  have hnew := new_h w2 (50 + r) (0 + 100) (by omega) (by omega)
  rw [show ((50 + r : Nat) : Int) = 50 + (r : Int) by omega] at hnew
  have HN := Lib.hid hnew
  clear hnew
  go_wp2_with fail
  refine HN.out.mono ?_
  rintro e w3 ⟨D, F, rfl, hd, hF, t3⟩
  have HD := Lib.hid hd
  have HF := Lib.hid hF
  have HT3 := Lib.hid (HT2.out.trans t3 (fun _ _ => id))
  have HK3 := Lib.hid (show w3.rangeAt W.heap.size 0 (keyV ks) from rangeAt_turn HK2.out t3 id)
  have hs3 := t3.size
  clear hd hF t3
  go_wp2_with fail
  refine (open_h w3 F D (newM (50 + r)) 0 _ 0 HD.out rfl (by omega)).mono ?_
  rintro e w4 ⟨J, F4, d4, L4, rfl, hj, ha, hJ, hst, hL⟩
  have HJ := Lib.hid hj
  have hnF : ∀ k, k < w2.heap.size → ¬ F k := fun k hk h => by have := HF.out k h; omega
  have hs2 := HT2.out.size
  have HT4 := Lib.hid (show Turn (fun _ => False) W w4 from HT3.out.trans hst.turn (fun k hk e => hnF k (by omega) e))
  have HK4 := Lib.hid (show w4.rangeAt W.heap.size 0 (keyV ks) from rangeAt_turn HK3.out hst.turn (hnF _ HZ2.out))
  clear hj hst hnF
  go_wp2_with fail
  refine (lopen_small w4 F4 J D d4 L4 _ 0 HJ.out (by simp; omega)).mono ?_
  rintro e w5 ⟨rfl, rfl⟩
  go_wp2_with fail
  refine (lawake_any w5 (HTAB.out.turn HT4.out)).mono ?_
  rintro e w6 ⟨rfl, t6⟩
  have HT6 := Lib.hid (HT4.out.trans t6 (fun _ _ => id))
  have HK6 := Lib.hid (show w6.rangeAt W.heap.size 0 (keyV ks) from rangeAt_turn HK4.out t6 id)
  clear t6
  go_wp2_with (with_reducible (show wpList _ _ _ (Oper.mk (some 42) (.build 37 _) _ _ _ _ :: _) _ _); refine still ?_)
  refine list_want rfl _ _ (exec_build37n _ _ _ rfl s rfl _) ?_
  go_wp2_with fail
  refine (make_nil ⟨s, List.replicate 32 0, false⟩ w6).mono ?_
  rintro e w7 ⟨rfl, t7⟩
  have HT7 := Lib.hid (HT6.out.trans t7 (fun _ _ => id))
  have HK7 := Lib.hid (show w7.rangeAt W.heap.size 0 (keyV ks) from rangeAt_turn HK6.out t7 id)
  clear t7
  go_wp2_with (with_reducible (show wpList _ _ _ (Oper.mk (some 49) (.load 30 (.tmp 4)) _ _ _ _ :: _) _ _); refine still ?_)
  refine wpList_load_want rfl 30 (.tmp 4) rfl W.heap.size 0 rfl (keyV ks) _ HK7.out Tryd.underlying30 rfl (by simp [keyV, hkl, info30]) ?_
  go_wp2_with fail
  refine (move_nil s ks w7).mono ?_
  rintro e w8 ⟨rfl, t8⟩
  have HT8 := Lib.hid (HT7.out.trans t8 (fun _ _ => id))
  clear t8
  go_wp2_with fail
  refine (ldrop_nil s w8).mono ?_
  rintro e w9 ⟨rfl, t9⟩
  have HT9 := Lib.hid (HT8.out.trans t9 (fun _ _ => id))
  clear t9
  go_wp2_with fail
  refine (all_nil w9).mono ?_
  rintro e w10 ⟨rfl, rfl⟩
  go_wp2_with fail
  go_ret
  exact ⟨rfl, HT9.out⟩
end Go.Proofs.YtnenkclihgeacaaDoor
