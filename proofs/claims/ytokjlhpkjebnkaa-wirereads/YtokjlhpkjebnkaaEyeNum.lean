/- Own contracts: what an Eye's Num and End do. No statement is proved here. -/
import Derived.Test.YtokjlhpkjebnkaaNumber
namespace Go.Proofs.Ytokjlhpkjebnkaa
open Go.RowKit
set_option linter.unusedVariables false

def NumOk (w : World) (X : Nat) (v : Value) (n : Nat) (rest : List Int) (e : Ending) (w' : World) : Prop :=
  ∃ v', e = .returned (.int .i64 (n : Int)) ∧ EyeIs w' X v' 0 ∧ Reads w' v' rest ∧ Turn (fun k => k = X) w w' ∧ v'.ownBlock = v.ownBlock

def NumBad (w : World) (X : Nat) (f : Int) (e : Ending) (w' : World) : Prop :=
  e = .returned (.int .i64 0) ∧ EyeIs w' X (.slice none 0 0) f ∧ Turn (fun k => k = X) w w'

set_option maxHeartbeats 800000 in
set_option maxRecDepth 100000 in
theorem eye_fault (X : Nat) (v : Value) (f : Int) (most : Int) (w : World) (h : EyeIs w X v f) (hf : f ≠ 0) :
    Calls Try.prog 50 #[.pointer (some ⟨X, 0, none⟩), .int .i64 most] w fun e w' => e = .returned (.int .i64 0) ∧ w = w' := by
  have hb : (f != 0) = true := by simp [hf]
  go_enter Try.func50, Try.ntmps50
  go_wp2_with fail
  refine (fault_any X v f _ h).mono ?_
  rintro e w' ⟨rfl, rfl⟩
  go_wp2_with fail
  go_ret
  exact ⟨rfl, rfl⟩

set_option maxHeartbeats 800000 in
set_option maxRecDepth 100000 in
theorem eye_short (X : Nat) (v : Value) (xs : List Int) (most : Int) (w : World) (h : EyeIs w X v 0) (hr : Reads w v xs) (hl : xs.length ≤ 9) (hx : ∀ i, i < xs.length → 0 ≤ xs.getD i 0 ∧ xs.getD i 0 < 128) :
    Calls Try.prog 50 #[.pointer (some ⟨X, 0, none⟩), .int .i64 most] w (NumBad w X 6) := by
  have h0 := h.rest
  go_enter Try.func50, Try.ntmps50
  go_wp2_with fail
  refine (fault_any X v 0 _ h).mono ?_
  rintro e w' ⟨rfl, rfl⟩
  go_wp2_with fail
  refine (number_short v xs _ hr hl hx).mono ?_
  rintro e w' ⟨rfl, rfl⟩
  go_wp2_with fail
  refine (fail_first X v 6 _ h (by omega)).mono ?_
  rintro e w' ⟨rfl, he, ht⟩
  go_wp2_with fail
  go_ret
  exact ⟨rfl, he, ht⟩

set_option maxHeartbeats 800000 in
set_option maxRecDepth 100000 in
theorem eye_long (X : Nat) (v : Value) (n : Nat) (rest : List Int) (most : Int) (w : World) (h : EyeIs w X v 0) (hr : Reads w v (numB n ++ rest)) (hn : n < 9223372036854775808) (hl : (numB n ++ rest).length ≤ 70000000000000) (hm : most < (n : Int)) (hm0 : 0 < n) :
    Calls Try.prog 50 #[.pointer (some ⟨X, 0, none⟩), .int .i64 most] w (NumBad w X 5) := by
  have h0 := h.rest
  by_cases hmost : most < 0
  all_goals
    go_enter Try.func50, Try.ntmps50
    go_wp2_with fail
    refine (fault_any X v 0 _ h).mono ?_
    rintro e w' ⟨rfl, rfl⟩
    go_wp2_with fail
    refine (number_ok v n rest _ hn hr hl).mono ?_
    rintro e w' ⟨rfl, rfl⟩
    go_wp2_with fail
    refine (fail_first X v 5 _ h (by omega)).mono ?_
    rintro e w' ⟨rfl, he, ht⟩
    go_wp2_with fail
    go_ret
    exact ⟨rfl, he, ht⟩

/-- What 'rest = rest[l:]' leaves. -/
theorem reads_drop {w : World} {X g o l cap : Nat} {xs : List Int} {o' : Nat} (h : EyeIs w X (.slice (some ⟨g, o, none⟩) xs.length cap) 0) (hc : xs.length ≤ cap)
    (hcell : ∀ i, i < xs.length → w.cell? ⟨g, o + i, none⟩ = some (.int .u8 (xs.getD i 0))) (hl : l ≤ xs.length) (ho : l < xs.length → o' = o + l) :
    EyeIs (w.setCell ⟨X, 0, none⟩ (.slice (some ⟨g, o', none⟩) (xs.length - l) (cap - l))) X (.slice (some ⟨g, o', none⟩) (xs.length - l) (cap - l)) 0 ∧
      Reads (w.setCell ⟨X, 0, none⟩ (.slice (some ⟨g, o', none⟩) (xs.length - l) (cap - l))) (.slice (some ⟨g, o', none⟩) (xs.length - l) (cap - l)) (xs.drop l) ∧
      Turn (fun k => k = X) w (w.setCell ⟨X, 0, none⟩ (.slice (some ⟨g, o', none⟩) (xs.length - l) (cap - l))) := by
  have ha : g ≠ X := by have := h.apart; simpa [Value.ownBlock] using this
  refine ⟨eye_set h (by simpa [Value.ownBlock] using ha), .inr ⟨g, o', cap - l, by simp, by simp only [List.length_drop]; omega, fun i hi => ?_⟩, (Turn.refl (fun k => k = X) w).setCell (p := ⟨X, 0, none⟩) (fun _ => rfl) _⟩
  simp only [List.length_drop] at hi
  rw [World.cell?_setCell_other _ _ _ _ (fun e => by injection e with e _ _; omega), show o' + i = o + (l + i) by have := ho (by omega); omega, hcell (l + i) (by omega)]
  simp [List.getD, List.getElem?_drop]

set_option maxHeartbeats 800000 in
set_option maxRecDepth 100000 in
theorem eye_ok (X : Nat) (v : Value) (n : Nat) (rest : List Int) (most : Int) (w : World) (h : EyeIs w X v 0) (hr : Reads w v (numB n ++ rest)) (hn : n < 9223372036854775808) (hl : (numB n ++ rest).length ≤ 70000000000000) (hm : (n : Int) ≤ most ∨ n = 0) :
    Calls Try.prog 50 #[.pointer (some ⟨X, 0, none⟩), .int .i64 most] w (NumOk w X v n rest) := by
  have hp := numB_pos n
  have hr' := hr
  rcases hr with ⟨_, hh⟩ | ⟨g, o, cap, rfl, hc, hcell⟩
  · have h1 := congrArg List.length hh; rw [List.length_append] at h1; simp only [List.length_nil] at h1; omega
  have h0 := h.rest
  have g0 := h.open0
  have hln : (numB n).length ≤ (numB n ++ rest).length := by simp
  have HD : Hid (∀ o', ((numB n).length < (numB n ++ rest).length → o' = o + (numB n).length) → _) := fun o' ho => reads_drop (o' := o') h hc hcell hln ho
  have HR := Lib.hid hr'
  have HL := Lib.hid hl
  clear hcell hr' hl
  rw [List.drop_left] at HD
  have hL : (numB n ++ rest).length ≤ 70000000000000 := HL.out
  obtain ⟨l, el⟩ : ∃ l, (numB n).length = l := ⟨_, rfl⟩
  obtain ⟨L, eL⟩ : ∃ L, (numB n ++ rest).length = L := ⟨_, rfl⟩
  have HD2 : Hid (∀ o', (l < L → o' = o + l) → EyeIs (w.setCell ⟨X, 0, none⟩ (.slice (some ⟨g, o', none⟩) (L - l) (cap - l))) X (.slice (some ⟨g, o', none⟩) (L - l) (cap - l)) 0 ∧
      Reads (w.setCell ⟨X, 0, none⟩ (.slice (some ⟨g, o', none⟩) (L - l) (cap - l))) (.slice (some ⟨g, o', none⟩) (L - l) (cap - l)) rest ∧
      Turn (fun k => k = X) w (w.setCell ⟨X, 0, none⟩ (.slice (some ⟨g, o', none⟩) (L - l) (cap - l)))) := by
    have := HD; rw [eL, el] at this; exact this
  clear HD
  have EL := Lib.hid eL
  have El := Lib.hid el
  rw [eL] at h h0 hc hln hL
  rw [el] at hp hln
  clear eL el
  by_cases hmost : most < 0
  all_goals
    go_enter Try.func50, Try.ntmps50
    go_wp2_with fail
    refine (fault_any X _ 0 _ h).mono ?_
    rintro e w' ⟨rfl, rfl⟩
    go_wp2_with fail
    refine (number_ok _ n rest _ hn (by rw [← EL.out]; exact HR.out) HL.out).mono ?_
    rintro e w' ⟨rfl, rfl⟩
    rw [El.out]
    go_wp2_with fail
    all_goals go_ret
    · have hcl : cap = l := by assumption
      have D := HD2.out o (fun _ => by omega)
      rw [hcl, Nat.sub_self] at D
      exact ⟨_, rfl, D.1, D.2.1, D.2.2, rfl⟩
    · have D := HD2.out (o + l) (fun _ => rfl)
      exact ⟨_, rfl, D.1, D.2.1, D.2.2, rfl⟩

set_option maxHeartbeats 800000 in
set_option maxRecDepth 100000 in
theorem end_any (X : Nat) (a : Option Addr) (l c : Nat) (f : Int) (w : World) (h : EyeIs w X (.slice a l c) f) (hl : l = 0) :
    Calls Try.prog 52 #[.pointer (some ⟨X, 0, none⟩)] w fun e w' => e = .returned (.int .i64 f) ∧ w = w' := by
  subst hl
  go_enter Try.func52, Try.ntmps52
  go_wp2_with fail
  refine (left_any X a 0 c f _ h).mono ?_
  rintro e w' ⟨rfl, rfl⟩
  go_wp2_with fail
  refine (fault_any X _ f _ h).mono ?_
  rintro e w' ⟨rfl, rfl⟩
  go_wp2_with fail
  go_ret
  exact ⟨rfl, rfl⟩

set_option maxHeartbeats 800000 in
theorem end_nil (w : World) : Calls Try.prog 52 #[.pointer none] w fun e w' => e = .returned (.int .i64 2) ∧ w = w' := by
  go_enter Try.func52, Try.ntmps52
  go_wp2_with fail
  refine (left_nil _).mono ?_
  rintro e w' ⟨rfl, rfl⟩
  go_wp2_with fail
  refine (fault_nil _).mono ?_
  rintro e w' ⟨rfl, rfl⟩
  go_wp2_with fail
  go_ret
  exact ⟨rfl, rfl⟩
end Go.Proofs.Ytokjlhpkjebnkaa
