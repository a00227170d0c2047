/- Own texts, packed: Chk. No statement is proved here. -/
import Derived.Test.YtkciaafkhpjnaaaQ11
import Derived.Test.YtkciaafkhpjnaaaQ12
import Derived.Test.YtkciaafkhpjnaaaQ14
import Derived.Test.YtkciaafkhpjnaaaQ10
namespace Go.Proofs.Ytkciaafkhpjnaaa
set_option maxRecDepth 100000
open Go.RowKit
set_option linter.unusedVariables false
set_option linter.unusedSimpArgs false


def breaksB (l : List El) (x : El) (r : Int) : Bool := if r = 2 then b2 x else if r = 3 then b3 l x else if r = 4 then b4 l x else if r = 5 then b5 l x else if r = 6 then b6 l x else if r = 7 then b7 l x else b8 l x
theorem breaks_any (w : World) (v : Value) (l : List El) (x : El) (r : Int) (hr : 2 ≤ r ∧ r ≤ 8) (hv : RowV w v l) (hb : l.length ≤ 1000) : Calls Try.prog 41 #[v, .agg x.vals.toArray, .int .i64 r] w fun e w' => e = .returned (.bool (breaksB l x r)) ∧ Turn (fun _ => False) w w' := by
  rcases (by omega : r = 2 ∨ r = 3 ∨ r = 4 ∨ r = 5 ∨ r = 6 ∨ r = 7 ∨ r = 8) with rfl | rfl | rfl | rfl | rfl | rfl | rfl
  · exact breaks_2 w v x
  · exact breaks_3 w v l x hv hb
  · exact breaks_4 w v l x hv hb
  · exact breaks_5 w v l x hv hb
  · exact breaks_6 w v l x hv hb
  · exact breaks_7 w v l x hv hb
  · exact breaks_8 w v l x hv hb
/-- The rules from 9 - m on. -/
def checkN (l : List El) : Nat → Int × Int
  | 0 => (0, 0)
  | m + 1 => match l.find? (fun x => breaksB l x (8 - (m : Int))) with
    | some x => (8 - (m : Int), x.id)
    | none => checkN l m
def checkE (l : List El) : Int × Int := if rightE l = true then checkN l 7 else (1, 0)
theorem find_at {l : List El} {p : El → Bool} {k : Nat} (hk : k < l.length) (h : p (l.getD k el0) = true) (hn : ∀ j, j < k → p (l.getD j el0) = false) : l.find? p = some (l.getD k el0) := by
  rw [List.find?_eq_some_iff_getElem]
  have hg : ∀ (j : Nat) (hj : j < l.length), l[j] = l.getD j el0 := fun j hj => by simp [List.getD, hj]
  refine ⟨h, k, hk, hg k hk, fun j hj => ?_⟩
  rw [hg j (by omega), hn j hj]; rfl
theorem find_none {l : List El} {p : El → Bool} (h : ∀ j, j < l.length → p (l.getD j el0) = false) : l.find? p = none := by
  rw [List.find?_eq_none]
  intro x hx
  obtain ⟨j, hj, rfl⟩ := mem_at hx
  rw [h j hj]; decide
set_option maxHeartbeats 4000000 in
theorem check_any (w : World) (v : Value) (l : List El) (hv : RowV w v l) (hb : l.length ≤ 1000) : Calls Try.prog 24 #[v] w fun e w' => e = .returned (.tuple #[.int .i64 (checkE l).1, .int .i64 (checkE l).2]) ∧ Turn (fun _ => False) w w' := by
  obtain ⟨la, lc, rfl⟩ := hv.form
  obtain ⟨n, hn⟩ : ∃ n, l.length = n := ⟨_, rfl⟩
  rw [hn] at hv hb
  simp only [hn]
  have HV := Lib.hid hv
  have HN := Lib.hid hn
  clear hv hn
  go_enter Try.func24, Try.ntmps24
  go_wp2_with fail
  refine (rright_any w _ l HV.out (by rw [HN.out]; omega)).mono ?_
  rintro r w2 ⟨rfl, t2⟩
  have T2 := Lib.hid t2
  clear t2
  cases hr : rightE l
  · have HR := Lib.hid (show checkE l = (1, 0) from by rw [checkE, hr]; rfl)
    clear hr
    go_wp2_with fail
    go_ret2
    exact ⟨by rw [HR.out]; rfl, T2.out⟩
  have HR := Lib.hid (show checkE l = checkN l 7 from by rw [checkE, hr]; rfl)
  clear hr
  go_wp2_with fail
  go_loopw [4] (fun rv wr => ∃ m : Nat, m ≤ 7 ∧ rv = .int .i64 (9 - (m : Int)) ∧ checkE l = checkN l m ∧ Turn (fun _ => False) w wr) (fun rv _ => (9 - intOf rv).toNat)
  case atStart => exact ⟨7, Nat.le_refl _, rfl, HR.out, T2.out⟩
  case round =>
    obtain ⟨m, hm, rfl, hch, htr⟩ := hrel
    have HC := Lib.hid hch
    have HT := Lib.hid htr
    clear hch htr
    by_cases h0 : m = 0
    · subst h0
      have dk : decide ((9 : Int) - ((0 : Nat) : Int) < 9) = false := by decide
      go_wp2_with fail
      go_ret2
      exact ⟨by rw [HC.out]; rfl, HT.out⟩
    · obtain ⟨q, rfl⟩ : ∃ q, m = q + 1 := ⟨m - 1, by omega⟩
      obtain ⟨R, hR⟩ : ∃ R : Int, (9 : Int) - ((q + 1 : Nat) : Int) = R := ⟨_, rfl⟩
      have HRR := Lib.hid hR
      have HB := Lib.hid (show R = 8 - (q : Int) ∧ 2 ≤ R ∧ R ≤ 8 from by omega)
      have dk : decide (R < 9) = true := decide_eq_true (by omega)
      rw [hR]
      clear hR h0
      have hw : wrap64 (R + 1) = R + 1 := by have := HB.out; unfold wrap64; omega
      go_wp2_with fail
      go_loopw [5] (fun iv wr => ∃ k : Nat, k ≤ n ∧ iv = .int .i64 (k : Int) ∧ (∀ j, j < k → breaksB l (l.getD j el0) R = false) ∧ Turn (fun _ => False) w wr) (fun iv _ => n - (intOf iv).toNat)
      case atStart => exact ⟨0, Nat.zero_le _, rfl, fun j hj => by omega, HT.out⟩
      case round =>
        obtain ⟨k, hk, rfl, hbef, htr⟩ := hrel
        have HBEF := Lib.hid hbef
        have HTR := Lib.hid htr
        clear hbef htr
        by_cases hlt : k < n
        · obtain ⟨b, o, rfl, hc, hs1⟩ := (HV.out.turn HTR.out (fun _ _ => id)).one HN.out k hlt
          have gi : (0 : Int) ≤ (k : Int) ∧ (k : Int) < (n : Int) := by omega
          have dk2 : decide ((k : Int) < (n : Int)) = true := decide_eq_true (by omega)
          obtain ⟨x, hx⟩ : ∃ x, l.getD k el0 = x := ⟨_, rfl⟩
          rw [hx] at hs1
          have HX := Lib.hid hx
          have HS := Lib.hid hs1
          clear hx hs1
          go_wp2_with (with_reducible (show wpList _ _ _ (Oper.mk (some 23) (.load 38 (.tmp 22)) _ _ _ _ :: _) _ _); refine still ?_)
          refine wpList_load_mid rfl 38 (.tmp 22) rfl b (o + k * 10) rfl x.vals _ HS.out Try.underlying38 rfl el_info ?_
          go_wp2_with fail
          refine (breaks_any wr _ l x R HB.out.2 (HV.out.turn HTR.out (fun _ _ => id)) (by rw [HN.out]; exact hb)).mono ?_
          rintro r w5 ⟨rfl, t5⟩
          have T5 := Lib.hid (HTR.out.trans t5 (fun _ _ => id))
          have HS5 := Lib.hid (rangeAt_turn HS.out t5 id)
          clear t5
          cases hbr : breaksB l x R
          · have HBR := Lib.hid hbr
            clear hbr
            go_wp2_with fail
            go_roundw
            case rel => exact ⟨k + 1, by omega, by go_num, fun j hj => by
              by_cases e : j = k
              · subst e; rw [HX.out]; exact HBR.out
              · exact HBEF.out j (by omega), T5.out⟩
            case measure => simp [intOf]; omega
          · have HBR := Lib.hid hbr
            clear hbr
            have HF := Lib.hid (find_at (l := l) (p := fun x => breaksB l x R) (k := k) (by rw [HN.out]; exact hlt) (by rw [HX.out]; exact HBR.out) HBEF.out)
            have hG : checkE l = (R, x.id) := by
              have h1 := HF.out
              rw [HX.out] at h1
              rw [HC.out, checkN, ← HB.out.1, h1]
            have HG := Lib.hid hG
            clear hG
            go_wp2_with fail
            refine wp_region_held_drew (S := fun wq => wq.rangeAt b (o + k * 10) x.vals) (by kernel_rfl) HS5.out (fun hHeld => ?_)
            refine wpAnyH_take (i := 0) (v := .int .i64 R) rfl (by kernel_rfl) (by kernel_rfl) (by kernel_rfl) (fun _ _ _ h => h) (Or.inl ⟨by rfl, ?ya1⟩) (by assumption) ?ra1
            case ya1 => (intro wq hSw; (try simp only [List.getElem_toArray, List.getElem_cons_zero, List.getElem_cons_succ]); go_simp; (try with_reducible rfl); all_goals (try omega))
            case ra1 =>
            try simp only [Act.put, List.setIfInBounds_toArray, List.set_cons_zero, List.set_cons_succ, List.getElem_toArray, List.getElem_cons_zero, List.getElem_cons_succ]
            refine wpAnyH_take (i := 1) (v := .slice (some ⟨b, o, none⟩) n lc) rfl (by kernel_rfl) (by kernel_rfl) (by kernel_rfl) (fun _ _ _ h => h) (Or.inl ⟨by rfl, ?ya2⟩) (by assumption) ?ra2
            case ya2 => (intro wq hSw; (try simp only [List.getElem_toArray, List.getElem_cons_zero, List.getElem_cons_succ]); go_simp; (try with_reducible rfl); all_goals (try omega))
            case ra2 =>
            try simp only [Act.put, List.setIfInBounds_toArray, List.set_cons_zero, List.set_cons_succ, List.getElem_toArray, List.getElem_cons_zero, List.getElem_cons_succ]
            refine wpAnyH_take (i := 2) (v := .int .i64 ((k : Int))) rfl (by kernel_rfl) (by kernel_rfl) (by kernel_rfl) (fun _ _ _ h => h) (Or.inl ⟨by rfl, ?ya3⟩) (by assumption) ?ra3
            case ya3 => (intro wq hSw; (try simp only [List.getElem_toArray, List.getElem_cons_zero, List.getElem_cons_succ]); go_simp; (try with_reducible rfl); all_goals (try omega))
            case ra3 =>
            try simp only [Act.put, List.setIfInBounds_toArray, List.set_cons_zero, List.set_cons_succ, List.getElem_toArray, List.getElem_cons_zero, List.getElem_cons_succ]
            refine wpAnyH_take (i := 3) (v := .pointer (some ⟨b, o + k * 10, none⟩)) rfl (by kernel_rfl) (by kernel_rfl) (by kernel_rfl) (fun _ _ _ h => h) (Or.inl ⟨by rfl, ?ya4⟩) (by assumption) ?ra4
            case ya4 => (intro wq hSw; (try simp only [List.getElem_toArray, List.getElem_cons_zero, List.getElem_cons_succ]); go_simp; (try with_reducible rfl); all_goals (try omega))
            case ra4 =>
            try simp only [Act.put, List.setIfInBounds_toArray, List.set_cons_zero, List.set_cons_succ, List.getElem_toArray, List.getElem_cons_zero, List.getElem_cons_succ]
            refine wpAnyH_take (i := 4) (v := .pointer (some ⟨b, o + k * 10, none⟩)) rfl (by kernel_rfl) (by kernel_rfl) (by kernel_rfl) (fun _ _ _ h => h) (Or.inl ⟨by rfl, ?ya5⟩) (by assumption) ?ra5
            case ya5 => (intro wq hSw; (try simp only [List.getElem_toArray, List.getElem_cons_zero, List.getElem_cons_succ]); go_simp; (try with_reducible rfl); all_goals (try omega))
            case ra5 =>
            try simp only [Act.put, List.setIfInBounds_toArray, List.set_cons_zero, List.set_cons_succ, List.getElem_toArray, List.getElem_cons_zero, List.getElem_cons_succ]
            refine wpAnyH_take (i := 5) (v := .int .i64 x.id) rfl (by kernel_rfl) (by kernel_rfl) (by kernel_rfl) (fun _ _ _ h => h) (Or.inl ⟨by rfl, ?ya6⟩) (by assumption) ?ra6
            case ya6 => (intro wq hSw; have cc := (cellsE hSw).c0; (try simp only [Nat.zero_add, Nat.add_zero] at cc); (try simp only [List.getElem_toArray, List.getElem_cons_zero, List.getElem_cons_succ]); go_simp; (try with_reducible rfl); all_goals (try omega))
            case ra6 =>
            try simp only [Act.put, List.setIfInBounds_toArray, List.set_cons_zero, List.set_cons_succ, List.getElem_toArray, List.getElem_cons_zero, List.getElem_cons_succ]
            refine wpAnyH_take (i := 6) (v := .int .i64 R) rfl (by kernel_rfl) (by kernel_rfl) (by kernel_rfl) (fun _ _ _ h => h) (Or.inl ⟨by rfl, ?ya7⟩) (by assumption) ?ra7
            case ya7 => (intro wq hSw; (try simp only [List.getElem_toArray, List.getElem_cons_zero, List.getElem_cons_succ]); go_simp; (try with_reducible rfl); all_goals (try omega))
            case ra7 =>
            try simp only [Act.put, List.setIfInBounds_toArray, List.set_cons_zero, List.set_cons_succ, List.getElem_toArray, List.getElem_cons_zero, List.getElem_cons_succ]
            refine wpAnyH_take (i := 7) (v := .int .i64 x.id) rfl (by kernel_rfl) (by kernel_rfl) (by kernel_rfl) (fun _ _ _ h => h) (Or.inl ⟨by rfl, ?ya8⟩) (by assumption) ?ra8
            case ya8 => (intro wq hSw; (try simp only [List.getElem_toArray, List.getElem_cons_zero, List.getElem_cons_succ]); go_simp; (try with_reducible rfl); all_goals (try omega))
            case ra8 =>
            try simp only [Act.put, List.setIfInBounds_toArray, List.set_cons_zero, List.set_cons_succ, List.getElem_toArray, List.getElem_cons_zero, List.getElem_cons_succ]
            refine wpAnyH_done (by kernel_rfl) ?_ _
            clear hHeld
            go_wp2_with fail
            go_ret2
            exact ⟨by rw [HG.out]; rfl, T5.out.drew⟩
        · have dk2 : decide ((k : Int) < (n : Int)) = false := decide_eq_false (by omega)
          have HF := Lib.hid (find_none (l := l) (p := fun x => breaksB l x R) (fun j hj => HBEF.out j (by rw [HN.out] at hj; omega)))
          go_wp2_with fail
          go_roundw
          case rel => exact ⟨q, by omega, congrArg (Value.int _) (by have := HB.out; first | omega | (rw [hw]; omega)), by rw [HC.out, checkN, ← HB.out.1, HF.out], HTR.out⟩
          case measure => have := HB.out; simp [intOf, hw]; omega
end Go.Proofs.Ytkciaafkhpjnaaa
