/- Own contracts: the ends of an eye; rows of elements that are made and written. No statement is proved here. -/
import Derived.Test.YtokjlhpkjebnkaaPl
namespace Go.Proofs.Ytokjlhpkjebnkaa
set_option maxRecDepth 100000
open Go.RowKit
set_option linter.unusedVariables false
set_option linter.unusedSimpArgs false


def c1 : ByteArray := { data := #[67, 49] }
theorem c1_iff {ys : List Int} (hb : Bytes8 ys) : strOfNums ys = c1 ↔ ys = [67, 49] := by
  constructor
  · intro h
    have := sB_str hb
    rw [h] at this
    rw [← this]
    rfl
  · rintro rfl; rfl
theorem exec_neq_str (ev : Operand → Value) (op : Oper) {x y : Operand} (ho : op.op = .binOp .neq 9 x y 9) (a b : ByteArray) (w : World) (h1 : ev x = .string a) (h2 : ev y = .string b) : (execOp ev op).run Try.prog w = .ok (.value (.bool (!decide (a = b)))) w := by
  have hg : (eqGuard .neq 9 x y (.string a) (.string b)).run Try.prog w = .ok () w := by simp [eqGuard]
  have hn : (binOp .neq 9 (.string a) (.string b)).run Try.prog w = .ok (.bool (!decide (a = b))) w := by rw [binOp_string_neq, name_eq]; rfl
  unfold execOp
  simp only [ho, h1, h2, Sem.run_bind, hn, hg, Result.andThen_ok, Sem.run_pure]
theorem fail_again (X : Nat) (v : Value) (f g : Int) (w : World) (h : EyeIs w X v f) (hf : f ≠ 0) (hg : g ≠ 0) :
    Calls Try.prog 49 #[.pointer (some ⟨X, 0, none⟩), .int .i64 g] w fun e w' => e = .returned (.tuple #[]) ∧ w = w' := by
  have hb : (f == 0) = false := by simpa using hf
  have hc : (g != 0) = true := by simpa using hg
  go_enter Try.func49, Try.ntmps49
  go_wp2_with (go_at_call 62; refine (fault_any X v f _ h).mono ?_; rintro e w' ⟨rfl, rfl⟩)
  go_end0
  exact ⟨rfl, rfl⟩
def BadEye (w : World) (X : Nat) : Prop := (∃ v, EyeIs w X v 0) ∨ EyeIs w X (.slice none 0 0) 6
theorem fail_bad (X G : Nat) (w : World) (h : BadEye w X) : Calls Try.prog 49 #[.pointer (some ⟨X, 0, none⟩), .int .i64 7] w fun e w' => e = .returned (.tuple #[]) ∧ EyeSt w' X G none ∧ Turn (fun k => k = X) w w' := by
  rcases h with ⟨v, h⟩ | h
  · refine (fail_first X v 7 w h (by decide)).mono ?_
    rintro e w' ⟨h1, h2, h3⟩
    exact ⟨h1, ⟨7, by decide, h2⟩, h3⟩
  · refine (fail_again X _ 6 7 w h (by decide) (by decide)).mono ?_
    rintro e w' ⟨h1, rfl⟩
    exact ⟨h1, ⟨6, by decide, h⟩, Turn.refl _ _⟩
def Raw2 (w : World) (X G : Nat) (xs : List Int) (e : Ending) (w' : World) : Prop :=
  ∃ q s, e = .returned q ∧ (convert 49 9 q).run Try.prog w' = .ok (.string s) w' ∧ Turn (fun k => k = X) w w' ∧ ((xs.take 2 = [67, 49] ∧ s = c1 ∧ EyeSt w' X G (some (xs.drop 2))) ∨ (xs.take 2 ≠ [67, 49] ∧ s ≠ c1 ∧ BadEye w' X))
theorem raw2_st (X G : Nat) (w : World) (xs : List Int) (h : EyeSt w X G (some xs)) : Calls Try.prog 48 #[.pointer (some ⟨X, 0, none⟩), .int .i64 2] w (Raw2 w X G xs) := by
  obtain ⟨v, h1, h2, h3, h4, h5⟩ := h
  by_cases hl : 2 ≤ xs.length
  · refine (raw_reads X v xs 2 w h1 h2 (by omega) hl h4).mono ?_
    rintro e w' ⟨q, v', rfl, k1, k2, k3, k4, k5, k6⟩
    refine ⟨q, _, rfl, k1.conv, k4, ?_⟩
    have hb2 : Bytes8 (xs.take 2) := fun x hx => h3 x (List.mem_of_mem_take hx)
    by_cases he : xs.take 2 = [67, 49]
    · exact .inl ⟨he, (c1_iff hb2).2 he, v', k2, k3, fun x hx => h3 x (List.mem_of_mem_drop hx), by rw [List.length_drop]; omega, fun h => by rw [k5]; exact h5 (by omega)⟩
    · exact .inr ⟨he, fun h => he ((c1_iff hb2).1 h), .inl ⟨v', k2⟩⟩
  · have hsh : ∃ a c, v = .slice a xs.length c := by
      rcases h2 with ⟨rfl, rfl⟩ | ⟨g, o, c, rfl, _⟩
      · exact ⟨_, _, rfl⟩
      · exact ⟨_, _, rfl⟩
    obtain ⟨a, c, rfl⟩ := hsh
    refine (raw_short X a xs.length c 2 w h1 (by omega)).mono ?_
    rintro e w' ⟨rfl, k1, k2⟩
    refine ⟨_, e0, rfl, ?_, k2, .inr ⟨fun he => ?_, by decide, .inr k1⟩⟩
    · rw [← str_none]; exact Reads.conv (.inl ⟨rfl, rfl⟩)
    · have := congrArg List.length he
      rw [List.length_take] at this
      simp at this
      omega
theorem end_more (X : Nat) (a : Option Addr) (l c : Nat) (f : Int) (w : World) (h : EyeIs w X (.slice a l c) f) (hl : 0 < l) :
    Calls Try.prog 52 #[.pointer (some ⟨X, 0, none⟩)] w fun e w' => e = .returned (.int .i64 7) ∧ w = w' := by
  have d1 : decide ((0 : Int) < (l : Int)) = true := decide_eq_true (by omega)
  have d2 : decide (0 < l) = true := decide_eq_true hl
  go_enter Try.func52, Try.ntmps52
  go_wp2_with fail
  refine (left_any X a l c f _ h).mono ?_
  rintro e w' ⟨rfl, rfl⟩
  go_wp2_with fail
  go_ret
  exact ⟨rfl, rfl⟩
theorem end_st (X G : Nat) (w : World) (o : Option (List Int)) (h : EyeSt w X G o) : Calls Try.prog 52 #[.pointer (some ⟨X, 0, none⟩)] w fun e w' => (∃ f : Int, e = .returned (.int .i64 f) ∧ (f = 0 ↔ o = some [])) ∧ w = w' := by
  cases o with
  | none =>
    obtain ⟨f, h1, h2⟩ := h
    refine (end_any X none 0 0 f w h2 rfl).mono ?_
    rintro e w' ⟨rfl, rfl⟩
    exact ⟨⟨f, rfl, fun h => absurd h h1, fun h => by cases h⟩, rfl⟩
  | some xs =>
    obtain ⟨v, h1, h2, h3, h4, h5⟩ := h
    have hsh : ∃ a c, v = .slice a xs.length c := by
      rcases h2 with ⟨rfl, rfl⟩ | ⟨g, o, c, rfl, _⟩
      · exact ⟨_, _, rfl⟩
      · exact ⟨_, _, rfl⟩
    obtain ⟨a, c, rfl⟩ := hsh
    cases xs with
    | nil =>
      refine (end_any X a 0 c 0 w h1 rfl).mono ?_
      rintro e w' ⟨rfl, rfl⟩
      exact ⟨⟨0, rfl, fun _ => rfl, fun _ => rfl⟩, rfl⟩
    | cons x xs =>
      refine (end_more X a _ c 0 w h1 (by simp)).mono ?_
      rintro e w' ⟨rfl, rfl⟩
      exact ⟨⟨7, rfl, (fun h => absurd h (by decide)), (fun h => by simp at h)⟩, rfl⟩
theorem made_els (k : Nat) : madeCells (Value.agg el0.vals.toArray).cells (k * 10) = (elsV (List.replicate k el0)).toArray := by
  have h : ∀ k : Nat, (List.range (k * 10)).map (fun i => el0.vals.toArray[i % 10]!) = elsV (List.replicate k el0) := by
    intro k
    induction k with
    | zero => rfl
    | succ k ih =>
      rw [Nat.succ_mul, List.range_add, List.map_append, ih, List.replicate_succ', elsV_app, elsV_single]
      congr 1
      rw [List.map_map]
      have e : ((fun i => el0.vals.toArray[i % 10]!) ∘ fun x => k * 10 + x) = fun i => el0.vals.toArray[i % 10]! := by
        funext j
        simp only [Function.comp]
        rw [show (k * 10 + j) % 10 = j % 10 by omega]
      rw [e]
      rfl
  apply Array.ext'
  unfold madeCells
  simp only [Array.toList_map, Array.toList_range]
  exact h k
theorem run_make_els (k : Int) (hk : 0 ≤ k ∧ k ≤ 1000) (w : World) : (Instr.makeSlice 26 (.int .i64 k) (.int .i64 k)).run Try.prog w = .ok (.slice (some ⟨w.heap.size, 0, none⟩) k.toNat k.toNat) (w.alloc (.cells (elsV (List.replicate k.toNat el0)).toArray 24)) := by
  obtain ⟨i0, hi, hz0, hz1, hz2⟩ := info_parts el_infop
  have h := run_make (P := Try.prog) w 26 24 i0 _ Try.underlying26 hi hz0 .i64 .i64 k k hk.1 (Int.le_refl _) (by rw [hz2]; omega) (by omega)
  rw [h, hz1, made_els]
theorem row_put {ops : Array Oper} {Q : Exit → Act → World → Prop} {a : Act} {o : Oper} {rest : List Oper} (w : World) (R k : Nat) (C : List El) (E : El) (hh : w.heap[R]? = some (.cells (elsV C).toArray 24 (0, 0))) (hk : k < C.length)
    (hgd : o.guard = none) (x y : Operand) (ho : o.op = .store 24 x y) (hx : a.eval x = .pointer (some ⟨R, k * 10, none⟩)) (hy : a.eval y = .agg E.vals.toArray)
    (h : ∀ w', w'.heap[R]? = some (.cells (elsV (C.set k E)).toArray 24 (0, 0)) → Turn (fun q => q = R) w w' → wpList Try.prog ops Q rest (a.put o.dst undef) w') : wpList Try.prog ops Q (o :: rest) a w := by
  have hl := elsV_len C
  refine wpList_store_mid hgd 24 x y ho R (k * 10) E.vals.toArray hx hy ?_ (by rw [el_info]; rfl) (all_oneCell_toArray E.vals_one) (h _ ?_ (turn_setCells R E.vals (k * 10) w))
  · intro j hj
    have hj2 : j < 10 := hj
    refine ⟨?_, frozen_of_row w R _ _ 24 hh⟩
    rw [cell_of_row w R _ _ 24 (0, 0) hh]
    simp
    omega
  · have := heap_setCells R 24 E.vals (k * 10) w _ hh (by rw [E.vlen]; omega)
    rw [this, elsV_set C E k hk]
    rfl
/-- A decoder at work. -/
structure DeS (w W : World) (X G : Nat) (o : Option (List Int)) : Prop where
  st : EyeSt W X G o
  turn : Turn (fun _ => False) w W
  xb : w.heap.size ≤ X
  gb : w.heap.size ≤ G
  gl : G < W.heap.size
theorem DeS.next {w W w' : World} {X G : Nat} {o p : Option (List Int)} (h : DeS w W X G o) (hp : EyeSt w' X G p) (t : Turn (fun k => k = X) W w') : DeS w w' X G p :=
  ⟨hp, h.turn.trans t (fun i hi hc => by have := h.xb; omega), h.xb, h.gb, Nat.lt_of_lt_of_le h.gl t.size⟩
theorem DeS.bad {w W w' : World} {X G : Nat} {o : Option (List Int)} (h : DeS w W X G o) (hp : EyeSt w' X G none) (t : Turn (fun k => k = X) W w') : DeS w w' X G none := h.next hp t
theorem neweye_st (v : Value) (xs : List Int) (w : World) (hl : xs.length ≤ 70000000000000) (hr : Src w v xs) (hb : Bytes8 xs) : Calls Try.prog 47 #[v] w fun e w' => ∃ X G, e = .returned (.pointer (some ⟨X, 0, none⟩)) ∧ DeS w w' X G (some xs) := by
  refine (neweye_any v xs w hl hr).mono ?_
  rintro e w' ⟨X, v', rfl, h1, h2, h3, h4, h5⟩
  have hX := h2.lt
  by_cases h0 : 0 < xs.length
  · rcases h3 with ⟨rfl, rfl⟩ | ⟨g, o, c, rfl, hc, hcell⟩
    · cases h0
    · exact ⟨X, g, rfl, ⟨_, h2, .inr ⟨g, o, c, rfl, hc, hcell⟩, hb, hl, fun _ k hk => (show k = g by injection hk with hk; exact hk.symm)⟩, h5, h1, h4 g rfl, World.block_lt_of_cell? w' _ (hcell 0 h0)⟩
  · exact ⟨X, X, rfl, ⟨v', h2, h3, hb, hl, fun h => absurd h h0⟩, h5, h1, h1, hX⟩
end Go.Proofs.Ytokjlhpkjebnkaa
