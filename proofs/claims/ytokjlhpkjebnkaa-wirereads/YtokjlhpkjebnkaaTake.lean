/- Own contracts: what an Eye's take and Raw do. No statement is proved here. -/
import Derived.Test.YtokjlhpkjebnkaaEye
namespace Go.Proofs.Ytokjlhpkjebnkaa
open Go.RowKit
set_option linter.unusedVariables false

/-- ys are handed out; zs are left; v' is the eye's new value. -/
def TakePost (w : World) (X : Nat) (v : Value) (ys zs : List Int) (e : Ending) (w' : World) : Prop :=
  ∃ q v', e = .returned q ∧ Reads w' q ys ∧ EyeIs w' X v' 0 ∧ Reads w' v' zs ∧ Turn (fun k => k = X) w w' ∧ v'.ownBlock = v.ownBlock ∧ q.ownBlock = v.ownBlock

def TakeRaw (w : World) (X g o l cap n : Nat) (e : Ending) (w' : World) : Prop :=
  e = .returned (.slice (some ⟨g, o, none⟩) n cap) ∧ ∃ o', w' = w.setCell ⟨X, 0, none⟩ (.slice (some ⟨g, o', none⟩) (l - n) (cap - n)) ∧ (n < l → o' = o + n)

/-- n below 1: none, and nothing turns. -/
theorem take_none (X : Nat) (n : Int) (w : World) (hn : n < 1) :
    Calls Try.prog 61 #[.pointer (some ⟨X, 0, none⟩), .int .i64 n] w fun e w' => e = .returned (.slice none 0 0) ∧ w = w' := by
  have hd : decide (n < 1) = true := by simpa using hn
  go_enter Try.func61, Try.ntmps61
  go_wp2
  go_ret
  exact ⟨rfl, rfl⟩

set_option maxHeartbeats 800000 in
set_option maxRecDepth 100000 in
theorem take_short (X : Nat) (a : Option Addr) (l c : Nat) (n : Int) (w : World) (h : EyeIs w X (.slice a l c) 0) (hl : (l : Int) < n) :
    Calls Try.prog 61 #[.pointer (some ⟨X, 0, none⟩), .int .i64 n] w fun e w' => e = .returned (.slice none 0 0) ∧ EyeIs w' X (.slice none 0 0) 6 ∧ Turn (fun k => k = X) w w' := by
  have hd : decide (n < 1) = false := by simp; omega
  have h0 := h.rest
  go_enter Try.func61, Try.ntmps61
  go_wp2_with fail
  refine (fault_any X _ 0 _ h).mono ?_
  rintro e w' ⟨rfl, rfl⟩
  go_wp2_with fail
  refine (fail_first X _ 6 _ h (by omega)).mono ?_
  rintro e w' ⟨rfl, he, ht⟩
  go_wp2
  go_ret
  exact ⟨rfl, he, ht⟩

set_option maxHeartbeats 800000 in
set_option maxRecDepth 100000 in
theorem take_some (X g o l cap n : Nat) (w : World) (h : EyeIs w X (.slice (some ⟨g, o, none⟩) l cap) 0) (hn : 1 ≤ n) (hl : n ≤ l) (hc : l ≤ cap) (hcap : l ≤ 70000000000000) :
    Calls Try.prog 61 #[.pointer (some ⟨X, 0, none⟩), .int .i64 (n : Int)] w (TakeRaw w X g o l cap n) := by
  have hd : decide ((n : Int) < 1) = false := by simp; omega
  have h0 := h.rest
  have g0 := h.open0
  go_enter Try.func61, Try.ntmps61
  go_wp2_with fail
  refine (fault_any X _ 0 _ h).mono ?_
  rintro e w' ⟨rfl, rfl⟩
  go_wp2_with fail
  all_goals go_ret
  · subst_vars
    exact ⟨rfl, o, by simp, fun hh => by omega⟩
  · exact ⟨rfl, _, rfl, fun _ => rfl⟩

theorem eye_set {w : World} {X : Nat} {v v' : Value} {f : Int} (h : EyeIs w X v f) (ha : v'.ownBlock ≠ some X) : EyeIs (w.setCell ⟨X, 0, none⟩ v') X v' f :=
  ⟨World.cell?_setCell_same _ _ _ h.rest, by rw [World.cell?_setCell_other _ _ _ _ (by simp)]; exact h.fault, by simpa using h.open0, by simpa using h.open1, ha⟩

theorem take_reads (X : Nat) (v : Value) (xs : List Int) (n : Nat) (w : World) (h : EyeIs w X v 0) (hr : Reads w v xs) (hn : 1 ≤ n) (hl : n ≤ xs.length) (hx : xs.length ≤ 70000000000000) :
    Calls Try.prog 61 #[.pointer (some ⟨X, 0, none⟩), .int .i64 (n : Int)] w (TakePost w X v (xs.take n) (xs.drop n)) := by
  rcases hr with ⟨_, rfl⟩ | ⟨g, o, cap, rfl, hc, hcell⟩
  · simp at hl; omega
  · refine (take_some X g o xs.length cap n w h hn hl hc hx).mono ?_
    rintro e w' ⟨rfl, o', rfl, ho'⟩
    have ha : g ≠ X := by have := h.apart; simpa [Value.ownBlock] using this
    have ht : Turn (fun k => k = X) w (w.setCell ⟨X, 0, none⟩ (.slice (some ⟨g, o', none⟩) (xs.length - n) (cap - n))) := (Turn.refl (fun k => k = X) w).setCell (p := ⟨X, 0, none⟩) (fun _ => rfl) _
    have hcl : ∀ i, i < xs.length → (w.setCell ⟨X, 0, none⟩ (.slice (some ⟨g, o', none⟩) (xs.length - n) (cap - n))).cell? ⟨g, o + i, none⟩ = some (.int .u8 (xs.getD i 0)) := fun i hi => by
      rw [World.cell?_setCell_other _ _ _ _ (fun e => by injection e with e _ _; omega)]; exact hcell i hi
    refine ⟨_, _, rfl, .inr ⟨g, o, cap, by simp [Nat.min_eq_left hl], by simp only [List.length_take]; omega, fun i hi => ?_⟩, eye_set h (by simpa [Value.ownBlock] using ha), .inr ⟨g, o', cap - n, by simp, by simp; omega, fun i hi => ?_⟩, ht, rfl, rfl⟩
    · simp only [List.length_take] at hi
      rw [hcl i (by omega)]
      simp [List.getD, show i < n by omega]
    · simp only [List.length_drop] at hi
      rw [show o' + i = o + (n + i) by have := ho' (by omega); omega, hcl (n + i) (by omega)]
      simp [List.getD, List.getElem?_drop]

def RawPost (w : World) (X : Nat) (v : Value) (ys zs : List Int) (e : Ending) (w' : World) : Prop :=
  ∃ q v', e = .returned q ∧ Reads w' q ys ∧ EyeIs w' X v' 0 ∧ Reads w' v' zs ∧ Turn (fun k => k = X) w w' ∧ v'.ownBlock = v.ownBlock ∧ (∀ k, q.ownBlock = some k → w.heap.size ≤ k)

set_option maxHeartbeats 800000 in
set_option maxRecDepth 100000 in
theorem raw_reads (X : Nat) (v : Value) (xs : List Int) (n : Nat) (w : World) (h : EyeIs w X v 0) (hr : Reads w v xs) (hn : 1 ≤ n) (hl : n ≤ xs.length) (hx : xs.length ≤ 70000000000000) :
    Calls Try.prog 48 #[.pointer (some ⟨X, 0, none⟩), .int .i64 (n : Int)] w (RawPost w X v (xs.take n) (xs.drop n)) := by
  go_enter Try.func48, Try.ntmps48
  go_wp2_with fail
  refine (take_reads X v xs n _ h hr hn hl hx).mono ?_
  rintro e w1 ⟨q, v', rfl, hq, he, hz, ht, hv1, hv2⟩
  go_wp2_with fail
  refine (clone_any q _ _ (by simp; omega) (.inl hq)).mono ?_
  rintro e w2 ⟨q', rfl, ho, ht2⟩
  go_wp2
  go_ret
  exact ⟨_, _, rfl, Reads.of_owns ho, he.turn ht2 id, hz.turn ht2 (fun _ _ => id), ht.trans ht2 (fun _ _ => False.elim), hv1, fun k hk => Nat.le_trans ht.size (ho.lt k hk).1⟩

set_option maxHeartbeats 800000 in
set_option maxRecDepth 100000 in
theorem raw_none (X : Nat) (n : Int) (w : World) (hn : n < 1) :
    Calls Try.prog 48 #[.pointer (some ⟨X, 0, none⟩), .int .i64 n] w fun e w' => e = .returned (.slice none 0 0) ∧ w = w' := by
  have hnil : ∀ w, (binOp .eql 49 (.slice none 0 0) (.slice none 0 0)).run Try.prog w = .ok (.bool true) w := fun w => Lib.run_eql_slice_nil (P := Try.prog) w 49 5 none 0 0 0 0 Try.underlying49
  go_enter Try.func48, Try.ntmps48
  go_wp2_with fail
  refine (take_none X n _ hn).mono ?_
  rintro e w1 ⟨rfl, rfl⟩
  go_wp2_with go_in
  go_ret
  exact ⟨rfl, rfl⟩

set_option maxHeartbeats 800000 in
set_option maxRecDepth 100000 in
theorem raw_short (X : Nat) (a : Option Addr) (l c : Nat) (n : Int) (w : World) (h : EyeIs w X (.slice a l c) 0) (hl : (l : Int) < n) :
    Calls Try.prog 48 #[.pointer (some ⟨X, 0, none⟩), .int .i64 n] w fun e w' => e = .returned (.slice none 0 0) ∧ EyeIs w' X (.slice none 0 0) 6 ∧ Turn (fun k => k = X) w w' := by
  have hnil : ∀ w, (binOp .eql 49 (.slice none 0 0) (.slice none 0 0)).run Try.prog w = .ok (.bool true) w := fun w => Lib.run_eql_slice_nil (P := Try.prog) w 49 5 none 0 0 0 0 Try.underlying49
  go_enter Try.func48, Try.ntmps48
  go_wp2_with fail
  refine (take_short X a l c n _ h hl).mono ?_
  rintro e w1 ⟨rfl, he, ht⟩
  go_wp2_with go_in
  go_ret
  exact ⟨rfl, he, ht⟩

end Go.Proofs.Ytokjlhpkjebnkaa
