/- DigitRaws: for every input the law answers true. -/
import Derived.Test.YtimajdbgeibalaaTake
namespace Go.Proofs.Ytimajdbgeibalaa
open Go.RowKit
set_option linter.unusedVariables false

theorem reads_slice {w : World} {v : Value} {xs : List Int} (h : Reads w v xs) : ∃ a c, v = .slice a xs.length c := by
  rcases h with ⟨rfl, rfl⟩ | ⟨g, o, cap, rfl, _⟩
  · exact ⟨_, _, rfl⟩
  · exact ⟨_, _, rfl⟩

theorem Reads.drewN {w : World} {v : Value} {xs : List Int} (h : Reads w v xs) (k : Nat) : Reads (w.drewN k) v xs := by
  rcases h with h | ⟨g, o, cap, h, hc, hcell⟩
  · exact .inl h
  · exact .inr ⟨g, o, cap, h, hc, fun i hi => by simpa using hcell i hi⟩
theorem EyeIs.drewN {w : World} {X : Nat} {v : Value} {f : Int} (h : EyeIs w X v f) (k : Nat) : EyeIs (w.drewN k) X v f :=
  ⟨by simpa using h.rest, by simpa using h.fault, by simpa using h.open0, by simpa using h.open1, h.apart⟩
theorem Turn.drewN {S : Nat → Prop} {w w' : World} (h : Turn S w w') (k : Nat) : Turn S w (w'.drewN k) :=
  ⟨h.os, h.tape, h.output, h.size, h.block⟩

def TrueNew (w : World) (e : Ending) (w' : World) : Prop := e = .returned (.bool true) ∧ Turn (fun _ => False) w w'

set_option maxHeartbeats 800000 in
set_option maxRecDepth 100000 in
theorem raws_long (a : Option Addr) (l c : Nat) (n : Int) (w : World) (hl : 60 < l) :
    Calls Try.prog 6 #[.slice a l c, .int .i64 n] w (TrueNew w) := by
  have hd : decide ((60 : Int) < (l : Int)) = true := by simp; omega
  go_enter Try.func6, Try.ntmps6
  go_wp2_with fail
  refine (awake_true _).mono ?_
  rintro e w1 ⟨rfl, t1⟩
  go_wp2_with fail
  refine (awake_true _).mono ?_
  rintro e w2 ⟨rfl, t2⟩
  go_wp2
  go_ret
  exact ⟨rfl, t1.trans t2 (fun _ _ => id)⟩

set_option maxHeartbeats 800000 in
set_option maxRecDepth 100000 in
theorem raws_over (a : Option Addr) (c : Nat) (xs : List Int) (n : Int) (w : World) (hl : xs.length ≤ 60) (hr : Src w (.slice a xs.length c) xs) (hn : (xs.length : Int) < n) :
    Calls Try.prog 6 #[.slice a xs.length c, .int .i64 n] w (TrueNew w) := by
  have hd : decide ((60 : Int) < (xs.length : Int)) = false := by simp; omega
  have hd2 : decide ((xs.length : Int) < n) = true := by simp; omega
  go_enter Try.func6, Try.ntmps6
  go_wp2_with fail
  refine (awake_true _).mono ?_
  rintro e w1 ⟨rfl, t1⟩
  go_wp2_with fail
  refine (neweye_any _ xs _ (by omega) (hr.turn t1 (fun _ _ => id))).mono ?_
  rintro e w2 ⟨X, v, rfl, hX, he, hv, hk, t2⟩
  obtain ⟨a', c', rfl⟩ := reads_slice hv
  go_wp2_with fail
  refine (raw_short X a' xs.length c' n _ he hn).mono ?_
  rintro e w3 ⟨rfl, he3, t3⟩
  have T : Turn (fun _ => False) w w3 := (t1.trans t2 (fun _ _ => id)).trans t3 (fun k hk h => by have := t1.size; omega)
  clear t1 t2 t3 hv hk he
  go_wp2_with (first | (go_at_call 14; refine (fault_any X _ 6 _ he3).mono ?_; rintro e w' ⟨rfl, rfl⟩) | (go_at_call 22; refine (left_any X none 0 0 6 _ he3).mono ?_; rintro e w' ⟨rfl, rfl⟩))
  go_ret
  exact ⟨rfl, T⟩

set_option maxHeartbeats 800000 in
set_option maxRecDepth 100000 in
theorem raws_some (g o c : Nat) (xs : List Int) (n : Nat) (w : World) (hl : xs.length ≤ 60) (hc : xs.length ≤ c) (hr : Reads w (.slice (some ⟨g, o, none⟩) xs.length c) xs) (hn : 1 ≤ n) (hn2 : n ≤ xs.length) :
    Calls Try.prog 6 #[.slice (some ⟨g, o, none⟩) xs.length c, .int .i64 (n : Int)] w (TrueNew w) := by
  have hd : decide ((60 : Int) < (xs.length : Int)) = false := by simp; omega
  have hd2 : decide ((xs.length : Int) < (n : Int)) = false := by simp; omega
  go_enter Try.func6, Try.ntmps6
  go_wp2_with fail
  refine (awake_true _).mono ?_
  rintro e w1 ⟨rfl, t1⟩
  go_wp2_with fail
  have hr1 := hr.turn t1 (fun _ _ => id)
  refine (neweye_any _ xs _ (by omega) (.inl hr1)).mono ?_
  rintro e w2 ⟨X, v, rfl, hX, he, hv, hk, t2⟩
  have hr2 := hr1.turn t2 (fun _ _ => id)
  go_wp2_with fail
  refine (raw_reads X v xs n _ he hv hn hn2 (by omega)).mono ?_
  rintro e w3 ⟨q, v', rfl, hq, he3, hz, t3, _, _⟩
  have hgX : g < w.heap.size := by
    rcases hr with ⟨h, _⟩ | ⟨g', o', cap', h, _, hcell⟩
    · cases h
    · cases h; exact World.block_lt_of_cell? w _ (hcell 0 (by omega))
  have hr3 := hr2.turn t3 (fun k h e => by simp [Value.ownBlock] at h; have := t1.size; omega)
  have T : Turn (fun _ => False) w w3 := (t1.trans t2 (fun _ _ => id)).trans t3 (fun k hk h => by have := t1.size; omega)
  obtain ⟨a', c', rfl⟩ := reads_slice hz
  have cq : ∀ k, (convert 25 9 q).run Try.prog (w3.drewN k) = .ok (.string (strOfNums (xs.take n))) (w3.drewN k) := fun k => (hq.drewN k).conv
  have hp : Reads w3 (.slice (some ⟨g, o, none⟩) n c) (xs.take n) := by
    rcases hr3 with ⟨h, _⟩ | ⟨g', o', cap', h, hc', hcell⟩
    · cases h
    · cases h
      refine .inr ⟨_, _, _, by rw [List.length_take, Nat.min_eq_left hn2], by simp; omega, fun i hi => ?_⟩
      simp only [List.length_take] at hi
      rw [hcell i (by omega)]; simp [List.getD, show i < n by omega]
  have cp : ∀ k, (convert 25 9 (.slice (some ⟨g, o, none⟩) n c)).run Try.prog (w3.drewN k) = .ok (.string (strOfNums (xs.take n))) (w3.drewN k) := fun k => (hp.drewN k).conv
  have ks : ((strOfNums (xs.take n)).toList == (strOfNums (xs.take n)).toList) = true := by simp
  have hm0 : (xs.drop n).length = xs.length - n := by simp
  generalize (xs.drop n).length = m at he3 hm0
  have kl : ((m : Int) == (xs.length : Int) - (n : Int)) = true := by simp; omega
  clear hm0
  have i0 : (0 : Int) ≤ (n : Int) := by omega
  have i1 : (n : Int) ≤ (c : Int) := by omega
  have iw : IntKind.i64.wrap ((xs.length : Int) - (n : Int)) = (xs.length : Int) - (n : Int) := IntWalk.i64_in _ (by omega)
  clear hr hr1 hr2 hv hq hz hp t1 t2 t3
  go_wp2_with fail
  go_quiet (first | (go_at_call 22; exact Calls.quiet_of_same ((left_any X a' _ c' 0 _ (he3.drewN _)).mono fun _ _ ⟨h, k⟩ => ⟨h, k.symm⟩)) | (go_at_call 14; exact Calls.quiet_of_same ((fault_any X _ 0 _ (he3.drewN _)).mono fun _ _ ⟨h, k⟩ => ⟨h, k.symm⟩)))
  go_wp2
  go_ret
  exact ⟨rfl, T.drewN _⟩


set_option maxHeartbeats 800000 in
set_option maxRecDepth 100000 in
theorem raws_neg_some (x : Addr) (c : Nat) (xs : List Int) (n : Int) (w : World) (hl : xs.length ≤ 60) (hr : Src w (.slice (some x) xs.length c) xs) (hn : n < 0) :
    Calls Try.prog 6 #[.slice (some x) xs.length c, .int .i64 n] w (TrueNew w) := by
  have hd : decide ((60 : Int) < (xs.length : Int)) = false := by simp; omega
  have hd2 : decide ((xs.length : Int) < n) = false := by simp; omega
  go_enter Try.func6, Try.ntmps6
  go_wp2_with fail
  refine (awake_true _).mono ?_
  rintro e w1 ⟨rfl, t1⟩
  go_wp2_with fail
  have hr1 := hr.turn t1 (fun _ _ => id)
  refine (neweye_any _ xs _ (by omega) hr1).mono ?_
  rintro e w2 ⟨X, v, rfl, hX, he, hv, hk, t2⟩
  obtain ⟨a', c', rfl⟩ := reads_slice hv
  go_wp2_with fail
  refine (raw_none X n _ (by omega)).mono ?_
  rintro e w3 ⟨rfl, rfl⟩
  have T : Turn (fun _ => False) w w2 := t1.trans t2 (fun _ _ => id)
  have cq : ∀ k, (convert 25 9 (.slice none 0 0)).run Try.prog (w2.drewN k) = .ok (.string (strOfNums [])) (w2.drewN k) := fun k => Reads.conv (.inl ⟨rfl, rfl⟩)
  have cp : ∀ k, (convert 25 9 (.slice (some x) 0 c)).run Try.prog (w2.drewN k) = .ok (.string (strOfNums [])) (w2.drewN k) := fun k => conv_empty _ x c
  have ks : ((strOfNums []).toList == (strOfNums []).toList) = true := by simp
  have kl : ((xs.length : Int) == (xs.length : Int) - 0) = true := by simp
  have iw : IntKind.i64.wrap (xs.length : Int) = (xs.length : Int) := IntWalk.i64_in _ (by omega)
  clear hr hr1 hv t1 t2
  go_wp2_with fail
  all_goals go_quiet (first | (go_at_call 22; exact Calls.quiet_of_same ((left_any X a' _ c' 0 _ (he.drewN _)).mono fun _ _ ⟨h, k⟩ => ⟨h, k.symm⟩)) | (go_at_call 14; exact Calls.quiet_of_same ((fault_any X _ 0 _ (he.drewN _)).mono fun _ _ ⟨h, k⟩ => ⟨h, k.symm⟩)))
  all_goals go_wp2
  all_goals go_ret
  all_goals exact ⟨rfl, T.drewN _⟩

set_option maxHeartbeats 800000 in
set_option maxRecDepth 100000 in
theorem raws_neg_nil (n : Int) (w : World) (hr : Src w (.slice none 0 0) []) (hn : n < 0) :
    Calls Try.prog 6 #[.slice none 0 0, .int .i64 n] w (TrueNew w) := by
  have hd : decide ((60 : Int) < (0 : Int)) = false := by simp
  have hd2 : decide ((0 : Int) < n) = false := by simp; omega
  go_enter Try.func6, Try.ntmps6
  go_wp2_with fail
  refine (awake_true _).mono ?_
  rintro e w1 ⟨rfl, t1⟩
  go_wp2_with fail
  have hr1 := hr.turn t1 (fun _ _ => id)
  refine (neweye_any _ [] _ (by simp) hr1).mono ?_
  rintro e w2 ⟨X, v, rfl, hX, he, hv, hk, t2⟩
  obtain ⟨a', c', rfl⟩ := reads_slice hv
  go_wp2_with fail
  refine (raw_none X n _ (by omega)).mono ?_
  rintro e w3 ⟨rfl, rfl⟩
  have T : Turn (fun _ => False) w w2 := t1.trans t2 (fun _ _ => id)
  have cq : ∀ k, (convert 25 9 (.slice none 0 0)).run Try.prog (w2.drewN k) = .ok (.string (strOfNums [])) (w2.drewN k) := fun k => Reads.conv (.inl ⟨rfl, rfl⟩)
  have ks : ((strOfNums []).toList == (strOfNums []).toList) = true := by simp
  have kl : ((0 : Int) == (0 : Int) - 0) = true := by simp
  have iw : IntKind.i64.wrap (0 : Int) = (0 : Int) := IntWalk.i64_in _ (by omega)
  clear hr hr1 hv t1 t2
  go_wp2_with fail
  all_goals go_quiet (first | (go_at_call 22; exact Calls.quiet_of_same ((left_any X a' _ c' 0 _ (he.drewN _)).mono fun _ _ ⟨h, k⟩ => ⟨h, k.symm⟩)) | (go_at_call 14; exact Calls.quiet_of_same ((fault_any X _ 0 _ (he.drewN _)).mono fun _ _ ⟨h, k⟩ => ⟨h, k.symm⟩)))
  all_goals go_wp2
  all_goals go_ret
  all_goals exact ⟨rfl, T.drewN _⟩

set_option maxHeartbeats 800000 in
set_option maxRecDepth 100000 in
theorem raws_zero_some (x : Addr) (c : Nat) (xs : List Int) (w : World) (hl : xs.length ≤ 60) (hr : Src w (.slice (some x) xs.length c) xs) :
    Calls Try.prog 6 #[.slice (some x) xs.length c, .int .i64 0] w (TrueNew w) := by
  have hd : decide ((60 : Int) < (xs.length : Int)) = false := by simp; omega
  have hd2 : decide ((xs.length : Int) < 0) = false := by simp
  go_enter Try.func6, Try.ntmps6
  go_wp2_with fail
  refine (awake_true _).mono ?_
  rintro e w1 ⟨rfl, t1⟩
  go_wp2_with fail
  have hr1 := hr.turn t1 (fun _ _ => id)
  refine (neweye_any _ xs _ (by omega) hr1).mono ?_
  rintro e w2 ⟨X, v, rfl, hX, he, hv, hk, t2⟩
  obtain ⟨a', c', rfl⟩ := reads_slice hv
  go_wp2_with fail
  refine (raw_none X 0 _ (by omega)).mono ?_
  rintro e w3 ⟨rfl, rfl⟩
  have T : Turn (fun _ => False) w w2 := t1.trans t2 (fun _ _ => id)
  have cq : ∀ k, (convert 25 9 (.slice none 0 0)).run Try.prog (w2.drewN k) = .ok (.string (strOfNums [])) (w2.drewN k) := fun k => Reads.conv (.inl ⟨rfl, rfl⟩)
  have cp : ∀ k, (convert 25 9 (.slice (some x) 0 c)).run Try.prog (w2.drewN k) = .ok (.string (strOfNums [])) (w2.drewN k) := fun k => conv_empty _ x c
  have ks : ((strOfNums []).toList == (strOfNums []).toList) = true := by simp
  have kl : ((xs.length : Int) == (xs.length : Int) - 0) = true := by simp
  have iw : IntKind.i64.wrap (xs.length : Int) = (xs.length : Int) := IntWalk.i64_in _ (by omega)
  clear hr hr1 hv t1 t2
  go_wp2_with fail
  all_goals go_quiet (first | (go_at_call 22; exact Calls.quiet_of_same ((left_any X a' _ c' 0 _ (he.drewN _)).mono fun _ _ ⟨h, k⟩ => ⟨h, k.symm⟩)) | (go_at_call 14; exact Calls.quiet_of_same ((fault_any X _ 0 _ (he.drewN _)).mono fun _ _ ⟨h, k⟩ => ⟨h, k.symm⟩)))
  all_goals go_wp2
  all_goals go_ret
  all_goals exact ⟨rfl, T.drewN _⟩

set_option maxHeartbeats 800000 in
set_option maxRecDepth 100000 in
theorem raws_zero_nil (w : World) (hr : Src w (.slice none 0 0) []) :
    Calls Try.prog 6 #[.slice none 0 0, .int .i64 0] w (TrueNew w) := by
  have hd : decide ((60 : Int) < (0 : Int)) = false := by simp
  have hd2 : decide ((0 : Int) < 0) = false := by simp
  go_enter Try.func6, Try.ntmps6
  go_wp2_with fail
  refine (awake_true _).mono ?_
  rintro e w1 ⟨rfl, t1⟩
  go_wp2_with fail
  have hr1 := hr.turn t1 (fun _ _ => id)
  refine (neweye_any _ [] _ (by simp) hr1).mono ?_
  rintro e w2 ⟨X, v, rfl, hX, he, hv, hk, t2⟩
  obtain ⟨a', c', rfl⟩ := reads_slice hv
  go_wp2_with fail
  refine (raw_none X 0 _ (by omega)).mono ?_
  rintro e w3 ⟨rfl, rfl⟩
  have T : Turn (fun _ => False) w w2 := t1.trans t2 (fun _ _ => id)
  have cq : ∀ k, (convert 25 9 (.slice none 0 0)).run Try.prog (w2.drewN k) = .ok (.string (strOfNums [])) (w2.drewN k) := fun k => Reads.conv (.inl ⟨rfl, rfl⟩)
  have ks : ((strOfNums []).toList == (strOfNums []).toList) = true := by simp
  have kl : ((0 : Int) == (0 : Int) - 0) = true := by simp
  have iw : IntKind.i64.wrap (0 : Int) = (0 : Int) := IntWalk.i64_in _ (by omega)
  clear hr hr1 hv t1 t2
  go_wp2_with fail
  all_goals go_quiet (first | (go_at_call 22; exact Calls.quiet_of_same ((left_any X a' _ c' 0 _ (he.drewN _)).mono fun _ _ ⟨h, k⟩ => ⟨h, k.symm⟩)) | (go_at_call 14; exact Calls.quiet_of_same ((fault_any X _ 0 _ (he.drewN _)).mono fun _ _ ⟨h, k⟩ => ⟨h, k.symm⟩)))
  all_goals go_wp2
  all_goals go_ret
  all_goals exact ⟨rfl, T.drewN _⟩
end Go.Proofs.Ytimajdbgeibalaa
