/- Own texts, packed: Rul, Bra0, Bre5, Bre8, Rrt. No statement is proved here. -/
import Derived.Test.YtkciaafkhpjnaaaQ09
import Derived.Deep.Cut
import Derived.Deep.CutRange
namespace Go.Proofs.Ytkciaafkhpjnaaa
set_option maxRecDepth 100000
open Go.RowKit
set_option linter.unusedVariables false
set_option linter.unusedSimpArgs false

def namedE (e : El) : Bool := e.kind == 1 || e.kind == 2
theorem named_any (x : El) (w : World) : Calls Try.prog 23 #[.agg x.vals.toArray] w fun r w' => r = .returned (.bool (namedE x)) ∧ Turn (fun _ => False) w w' := by
  have hbx := box_alloc w 38 x.vals
  obtain ⟨X, hX⟩ : ∃ X, w.heap.size = X := ⟨_, rfl⟩
  obtain ⟨w1, hw1⟩ : ∃ w1, w.alloc (.cells x.vals.toArray 38) = w1 := ⟨_, rfl⟩
  rw [hw1] at hbx
  have c1 := hbx.cell 1 (.int .u8 x.kind) rfl
  rw [hX] at c1
  have T1 := Lib.hid hbx.turn
  clear hbx
  go_enter Try.func23, Try.ntmps23
  by_cases h1 : x.kind = 1
  · have d1 : (x.kind == 1) = true := by simpa using h1
    have H1 := Lib.hid d1
    go_wp2_with fail
    go_ret
    exact ⟨by rw [namedE, H1.out]; rfl, T1.out⟩
  · have d1 : (x.kind == 1) = false := by simpa using h1
    have H1 := Lib.hid d1
    go_wp2_with fail
    go_ret
    exact ⟨by rw [namedE, H1.out, Bool.false_or]; rfl, T1.out⟩
def atE (c : List El) (id : Int) : Option El := c.find? fun x => decide (x.id = id)
def kindE (c : List El) (id : Int) : Int := match atE c id with
  | some x => x.kind
  | none => 0
theorem atE_some {c : List El} {id : Int} {k : Nat} (hk : k < c.length) (h : (c.getD k el0).id = id) (hn : ∀ j, j < k → (c.getD j el0).id ≠ id) : atE c id = some (c.getD k el0) := by
  unfold atE
  rw [List.find?_eq_some_iff_getElem]
  have hg : ∀ (j : Nat) (hj : j < c.length), c[j] = c.getD j el0 := fun j hj => by simp [List.getD, hj]
  refine ⟨by simpa using h, k, hk, hg k hk, fun j hj => ?_⟩
  rw [hg j (by omega)]
  simpa using hn j hj
theorem atE_none {c : List El} {id : Int} (h : ∀ j, j < c.length → (c.getD j el0).id ≠ id) : atE c id = none := by
  unfold atE
  rw [List.find?_eq_none]
  intro x hx
  obtain ⟨j, hj, rfl⟩ := List.mem_iff_getElem.1 hx
  have := h j hj
  simp only [List.getD, List.getElem?_eq_getElem hj, Option.getD_some] at this
  simpa using this
theorem range_kind {w : World} {g o : Nat} {x : El} (h : w.rangeAt g o x.vals) : w.cell? ⟨g, o + 1, none⟩ = some (.int .u8 x.kind) := h 1 _ rfl
theorem kind_any (w : World) (v : Value) (l : List El) (nr : Int) (hv : RowV w v l) (hb : l.length ≤ 1000) : Calls Try.prog 58 #[v, .int .i64 nr] w fun r w' => r = .returned (.int .u8 (kindE l nr)) ∧ w = w' := by
  obtain ⟨la, lc, rfl⟩ := hv.form
  obtain ⟨n, hn⟩ : ∃ n, l.length = n := ⟨_, rfl⟩
  rw [hn] at hv hb
  simp only [hn]
  have HV := Lib.hid hv
  have HN := Lib.hid hn
  clear hv hn
  go_enter Try.func58, Try.ntmps58
  go_wp2_with fail
  refine (rfind_any w _ l nr HV.out (by rw [HN.out]; exact hb)).mono ?_
  rintro r w' ⟨⟨k, hk, hid, hne, rfl⟩ | ⟨hne, rfl⟩, rfl⟩
  · have HE := Lib.hid (atE_some hk hid hne)
    rw [HN.out] at hk
    clear hid hne
    obtain ⟨b, o, rfl, hc, hs1⟩ := HV.out.one HN.out k hk
    generalize hx : l.getD k el0 = x at *
    have c1 := range_kind hs1
    have gi : (0 : Int) ≤ (k : Int) ∧ (k : Int) < (n : Int) := by omega
    have dk : decide ((k : Int) < 0) = false := decide_eq_false (by omega)
    clear hs1 hx
    go_wp2_with fail
    go_ret
    exact ⟨by rw [kindE, HE.out]; rfl, rfl⟩
  · have HE := Lib.hid (atE_none hne)
    clear hne
    go_wp2_with fail
    go_ret
    exact ⟨by rw [kindE, HE.out]; rfl, rfl⟩
/-- A short text by a number. -/
def textE (n : Int) : ByteArray := if n % 4 = 0 then ByteArray.empty else strOfNums [97 + n % 26, 48 + n % 10]
theorem rtext_any (n : Int) (hn : 0 ≤ n ∧ n < 256) (w : World) : Calls Try.prog 22 #[.int .i64 n] w fun r w' => r = .returned (.string (textE n)) ∧ Turn (fun _ => False) w w' := by
  have hb := box_alloc w 5 [.int .u8 (97 + n % 26), .int .u8 (48 + n % 10)]
  have hr : Reads (w.alloc (.cells #[.int .u8 (97 + n % 26), .int .u8 (48 + n % 10)] 5)) (.slice (some ⟨w.heap.size, 0, none⟩) 2 2) [97 + n % 26, 48 + n % 10] := by
    refine .inr ⟨w.heap.size, 0, 2, rfl, Nat.le_refl _, fun i hi => ?_⟩
    rw [cell_of_row _ _ _ _ 5 (0, 0) (heap_alloc_new w _)]
    have : i = 0 ∨ i = 1 := by simp at hi; omega
    rcases this with rfl | rfl <;> rfl
  have hcv := hr.conv
  have t1 : Turn (fun _ => False) w (w.alloc (.cells #[.int .u8 (97 + n % 26), .int .u8 (48 + n % 10)] 5)) := hb.turn
  obtain ⟨w1, hw1⟩ : ∃ w1, w.alloc (.cells #[.int .u8 (97 + n % 26), .int .u8 (48 + n % 10)] 5) = w1 := ⟨_, rfl⟩
  rw [hw1] at hcv t1
  have T1 := Lib.hid t1
  clear hb hr t1
  have m4 : n.tmod 4 = n % 4 := Int.tmod_eq_emod_of_nonneg hn.1
  have m26 : n.tmod 26 = n % 26 := Int.tmod_eq_emod_of_nonneg hn.1
  have m10 : n.tmod 10 = n % 10 := Int.tmod_eq_emod_of_nonneg hn.1
  go_enter Try.func22, Try.ntmps22
  by_cases h : n % 4 = 0
  · have d : (n % 4 == 0) = true := by simpa using h
    have H := Lib.hid h
    go_wp2_with fail
    go_ret
    exact ⟨by rw [textE, if_pos H.out]; rfl, Turn.refl _ _⟩
  · have d : (n % 4 == 0) = false := by simpa using h
    have H := Lib.hid h
    clear h
    go_wp2_with fail
    go_ret
    exact ⟨by rw [textE, if_neg H.out]; rfl, T1.out⟩
end Go.Proofs.Ytkciaafkhpjnaaa
namespace Go.Proofs.Ytkciaafkhpjnaaa
set_option maxRecDepth 100000
open Go.RowKit
set_option linter.unusedVariables false
set_option linter.unusedSimpArgs false

structure CellsE (w : World) (X o : Nat) (x : El) : Prop where
  c0 : w.cell? ⟨X, o + 0, none⟩ = some (.int .i64 x.id)
  c1 : w.cell? ⟨X, o + 1, none⟩ = some (.int .u8 x.kind)
  c2 : w.cell? ⟨X, o + 2, none⟩ = some (.int .i64 x.par)
  c3 : w.cell? ⟨X, o + 3, none⟩ = some (.int .i64 x.ord)
  c4 : w.cell? ⟨X, o + 4, none⟩ = some (.string x.name)
  c5 : w.cell? ⟨X, o + 5, none⟩ = some (.int .i64 x.frm)
  c6 : w.cell? ⟨X, o + 6, none⟩ = some (.int .i64 x.to)
  c7 : w.cell? ⟨X, o + 7, none⟩ = some (.string x.ev)
  c8 : w.cell? ⟨X, o + 8, none⟩ = some (.string x.gd)
  c9 : w.cell? ⟨X, o + 9, none⟩ = some (.string x.ac)
theorem cellsE {w : World} {X o : Nat} {x : El} (h : w.rangeAt X o x.vals) : CellsE w X o x :=
  ⟨h 0 _ rfl, h 1 _ rfl, h 2 _ rfl, h 3 _ rfl, h 4 _ rfl, h 5 _ rfl, h 6 _ rfl, h 7 _ rfl, h 8 _ rfl, h 9 _ rfl⟩
end Go.Proofs.Ytkciaafkhpjnaaa
namespace Go.Proofs.Ytkciaafkhpjnaaa
set_option maxRecDepth 100000
open Go.RowKit
set_option linter.unusedVariables false
set_option linter.unusedSimpArgs false


def ringB (l : List El) (id : Int) : Nat → Int → Bool
  | 0, _ => false
  | m + 1, a => if a = id then true else match atE l a with
    | none => false
    | some y => ringB l id m y.par
def b5 (l : List El) (x : El) : Bool := ringB l x.id l.length x.par
theorem ring_hit {l : List El} {id : Int} {m : Nat} {a : Int} (hm : 0 < m) (h : a = id) : ringB l id m a = true := by
  cases m with
  | zero => omega
  | succ m => rw [ringB, if_pos h]
theorem ring_end {l : List El} {id : Int} {m : Nat} {a : Int} (h : ¬ a = id) (hn : atE l a = none) : ringB l id m a = false := by
  cases m with
  | zero => rfl
  | succ m => rw [ringB, if_neg h, hn]
theorem ring_on {l : List El} {id : Int} {m : Nat} {a : Int} {y : El} (h : ¬ a = id) (hn : atE l a = some y) : ringB l id (m + 1) a = ringB l id m y.par := by
  rw [ringB, if_neg h, hn]
set_option maxHeartbeats 4000000 in
theorem breaks_5 (w : World) (v : Value) (l : List El) (x : El) (hv : RowV w v l) (hb : l.length ≤ 1000) : Calls Try.prog 41 #[v, .agg x.vals.toArray, .int .i64 5] w fun r w' => r = .returned (.bool (b5 l x)) ∧ Turn (fun _ => False) w w' := by
  obtain ⟨la, lc, rfl⟩ := hv.form
  obtain ⟨n, hn⟩ : ∃ n, l.length = n := ⟨_, rfl⟩
  rw [hn] at hv hb
  simp only [hn]
  have HN := Lib.hid hn
  clear hn
  have hbx := box_alloc w 38 x.vals
  obtain ⟨X, hX⟩ : ∃ X, w.heap.size = X := ⟨_, rfl⟩
  obtain ⟨w1, hw1⟩ : ∃ w1, w.alloc (.cells x.vals.toArray 38) = w1 := ⟨_, rfl⟩
  rw [hw1] at hbx
  have hr := hbx.range
  rw [hX] at hr
  have T1 := Lib.hid hbx.turn
  have HR := Lib.hid hr
  have HV1 := Lib.hid (hv.turn hbx.turn (fun _ _ => id))
  clear hbx hr hv
  obtain ⟨c0, c1, c2, c3, c4, c5, c6, c7, c8, c9⟩ := cellsE HR.out
  simp only [Nat.zero_add] at c0 c2
  clear c1 c3 c4 c5 c6 c7 c8 c9
  go_enter Try.func41, Try.ntmps41
  go_wp2_with fail
  go_loop [10, 11] (fun av iv => ∃ (k : Nat) (a : Int), k ≤ n ∧ iv = .int .i64 (k : Int) ∧ av = .int .i64 a ∧ b5 l x = ringB l x.id (n - k) a) (fun _ iv => n - (intOf iv).toNat)
  case atStart => exact ⟨0, x.par, Nat.zero_le _, rfl, rfl, by rw [b5, HN.out]; rfl⟩
  case round =>
    obtain ⟨k, a, hk, rfl, rfl, hring⟩ := hrel
    by_cases hlt : k < n
    · have dk : decide ((k : Int) < (n : Int)) = true := decide_eq_true (by omega)
      by_cases ha : a = x.id
      · have d1 : (a == x.id) = true := by simpa using ha
        have HP := Lib.hid (hring.trans (ring_hit (by omega) ha))
        clear hring ha
        go_wp2_with fail
        go_ret
        exact ⟨by rw [HP.out]; rfl, T1.out⟩
      · have d1 : (a == x.id) = false := by simpa using ha
        have HA := Lib.hid ha
        have HG := Lib.hid hring
        clear hring ha
        go_wp2_with fail
        refine (rfind_any w1 _ l a HV1.out (by rw [HN.out]; exact hb)).mono ?_
        rintro r w' ⟨⟨q, hq, hid, hne, rfl⟩ | ⟨hne, rfl⟩, rfl⟩
        · have HE := Lib.hid (atE_some hq hid hne)
          rw [HN.out] at hq
          clear hid hne
          obtain ⟨b, o, rfl, hc, hs1⟩ := HV1.out.one HN.out q hq
          obtain ⟨y, hy⟩ : ∃ y, l.getD q el0 = y := ⟨_, rfl⟩
          rw [hy] at hs1
          have HY := Lib.hid hy
          have cc := (cellsE hs1).c2
          have gi : (0 : Int) ≤ (q : Int) ∧ (q : Int) < (n : Int) := by omega
          have dq : decide ((q : Int) < 0) = false := decide_eq_false (by omega)
          clear hs1 hy
          go_wp2_with fail
          go_round
          case rel => exact ⟨k + 1, y.par, by omega, by go_num, rfl, by
            have h1 := HE.out
            rw [HY.out] at h1
            rw [HG.out, show n - k = (n - (k + 1)) + 1 from by omega, ring_on HA.out h1]⟩
          case measure => simp [intOf]; omega
        · have HE := Lib.hid (ring_end (id := x.id) (m := n - k) HA.out (atE_none hne))
          clear hne
          go_wp2_with fail
          go_ret
          exact ⟨by rw [HG.out, HE.out]; rfl, T1.out⟩
    · have dk : decide ((k : Int) < (n : Int)) = false := decide_eq_false (by omega)
      have HG := Lib.hid (show b5 l x = false from by rw [hring, show n - k = 0 from by omega]; rfl)
      clear hring
      go_wp2_with fail
      go_ret
      exact ⟨by rw [HG.out]; rfl, T1.out⟩
end Go.Proofs.Ytkciaafkhpjnaaa
namespace Go.Proofs.Ytkciaafkhpjnaaa
set_option maxRecDepth 100000
open Go.RowKit
set_option linter.unusedVariables false
set_option linter.unusedSimpArgs false


def regB (l : List El) (id : Int) : Bool := l.any fun y => y.par == id && y.kind == 2
def othB (l : List El) (id : Int) : Bool := l.any fun y => y.par == id && y.kind != 2
def b8 (l : List El) (x : El) : Bool := regB l x.id && othB l x.id
theorem regB_snoc (l : List El) (y : El) (id : Int) : regB (l ++ [y]) id = (regB l id || (y.par == id && y.kind == 2)) := by simp [regB, List.any_append]
theorem othB_snoc (l : List El) (y : El) (id : Int) : othB (l ++ [y]) id = (othB l id || (y.par == id && y.kind != 2)) := by simp [othB, List.any_append]
set_option maxHeartbeats 4000000 in
theorem breaks_8 (w : World) (v : Value) (l : List El) (x : El) (hv : RowV w v l) (hb : l.length ≤ 1000) : Calls Try.prog 41 #[v, .agg x.vals.toArray, .int .i64 8] w fun r w' => r = .returned (.bool (b8 l x)) ∧ Turn (fun _ => False) w w' := by
  obtain ⟨la, lc, rfl⟩ := hv.form
  obtain ⟨n, hn⟩ : ∃ n, l.length = n := ⟨_, rfl⟩
  rw [hn] at hv hb
  simp only [hn]
  have HN := Lib.hid hn
  clear hn
  have hbx := box_alloc w 38 x.vals
  obtain ⟨X, hX⟩ : ∃ X, w.heap.size = X := ⟨_, rfl⟩
  obtain ⟨w1, hw1⟩ : ∃ w1, w.alloc (.cells x.vals.toArray 38) = w1 := ⟨_, rfl⟩
  rw [hw1] at hbx
  have hr := hbx.range
  rw [hX] at hr
  have T1 := Lib.hid hbx.turn
  have HR := Lib.hid hr
  have HV1 := Lib.hid (hv.turn hbx.turn (fun _ _ => id))
  clear hbx hr hv
  go_enter Try.func41, Try.ntmps41
  go_wp2_with fail
  go_loopw [15, 16, 17] (fun rv ov iv wr => ∃ k : Nat, k ≤ n ∧ iv = .int .i64 (k : Int) ∧ rv = .bool (regB (l.take k) x.id) ∧ ov = .bool (othB (l.take k) x.id) ∧ Turn (fun _ => False) w1 wr) (fun _ _ iv _ => n - (intOf iv).toNat)
  case atStart => exact ⟨0, Nat.zero_le _, rfl, rfl, rfl, Turn.refl _ _⟩
  case round =>
    obtain ⟨k, hk, rfl, rfl, rfl, htr⟩ := hrel
    obtain ⟨R, hRB⟩ : ∃ R, regB (l.take k) x.id = R := ⟨_, rfl⟩
    obtain ⟨O, hOB⟩ : ∃ O, othB (l.take k) x.id = O := ⟨_, rfl⟩
    rw [hRB, hOB]
    have HRB := Lib.hid hRB
    have HOB := Lib.hid hOB
    clear hRB hOB
    by_cases hlt : k < n
    · have hbef := True.intro
      have hsn := take_snoc l k (by rw [HN.out]; exact hlt)
      obtain ⟨b, o, rfl, hc, hs1⟩ := (HV1.out.turn htr (fun _ _ => id)).one HN.out k hlt
      have hs2 := rangeAt_turn HR.out htr id
      have gi : (0 : Int) ≤ (k : Int) ∧ (k : Int) < (n : Int) := by omega
      have dk : decide ((k : Int) < (n : Int)) = true := decide_eq_true (by omega)
      obtain ⟨y, hy⟩ : ∃ y, l.getD k el0 = y := ⟨_, rfl⟩
      rw [hy] at hs1
      have HY := Lib.hid hy
      have HS := Lib.hid (show wr.rangeAt b (o + k * 10) y.vals ∧ wr.rangeAt X 0 x.vals from ⟨hs1, hs2⟩)
      have HTR := Lib.hid htr
      have HB := Lib.hid hbef
      clear hy hs1 hs2 htr hbef
      rw [HY.out] at hsn
      have HSN := Lib.hid hsn
      clear hsn
      cases q0 : (y.par == x.id)
      · have HQ := Lib.hid q0
        go_wp2_with fail
        refine wp_region_held_drew (S := fun wq => wq.rangeAt b (o + k * 10) y.vals ∧ wq.rangeAt X 0 x.vals) (by kernel_rfl) HS.out (fun hHeld => ?_)
        refine wpAnyH_take (i := 0) (v := .slice (some ⟨b, o, none⟩) n lc) rfl (by kernel_rfl) (by kernel_rfl) (by kernel_rfl) (fun _ _ _ h => h) (Or.inl ⟨by rfl, ?yapfalse1⟩) (by assumption) ?rapfalse1
        case yapfalse1 => (intro wq hSw; (try simp only [List.getElem_toArray, List.getElem_cons_zero, List.getElem_cons_succ]); go_simp; (try with_reducible rfl); all_goals (try omega))
        case rapfalse1 =>
        try simp only [Act.put, List.setIfInBounds_toArray, List.set_cons_zero, List.set_cons_succ, List.getElem_toArray, List.getElem_cons_zero, List.getElem_cons_succ]
        refine wpAnyH_take (i := 1) (v := .int .i64 ((k : Int))) rfl (by kernel_rfl) (by kernel_rfl) (by kernel_rfl) (fun _ _ _ h => h) (Or.inl ⟨by rfl, ?yapfalse2⟩) (by assumption) ?rapfalse2
        case yapfalse2 => (intro wq hSw; (try simp only [List.getElem_toArray, List.getElem_cons_zero, List.getElem_cons_succ]); go_simp; (try with_reducible rfl); all_goals (try omega))
        case rapfalse2 =>
        try simp only [Act.put, List.setIfInBounds_toArray, List.set_cons_zero, List.set_cons_succ, List.getElem_toArray, List.getElem_cons_zero, List.getElem_cons_succ]
        refine wpAnyH_take (i := 2) (v := .pointer (some ⟨b, o + k * 10, none⟩)) rfl (by kernel_rfl) (by kernel_rfl) (by kernel_rfl) (fun _ _ _ h => h) (Or.inl ⟨by rfl, ?yapfalse3⟩) (by assumption) ?rapfalse3
        case yapfalse3 => (intro wq hSw; (try simp only [List.getElem_toArray, List.getElem_cons_zero, List.getElem_cons_succ]); go_simp; (try with_reducible rfl); all_goals (try omega))
        case rapfalse3 =>
        try simp only [Act.put, List.setIfInBounds_toArray, List.set_cons_zero, List.set_cons_succ, List.getElem_toArray, List.getElem_cons_zero, List.getElem_cons_succ]
        refine wpAnyH_take (i := 3) (v := .pointer (some ⟨b, o + k * 10 + 2, none⟩)) rfl (by kernel_rfl) (by kernel_rfl) (by kernel_rfl) (fun _ _ _ h => h) (Or.inl ⟨by rfl, ?yapfalse4⟩) (by assumption) ?rapfalse4
        case yapfalse4 => (intro wq hSw; (try simp only [List.getElem_toArray, List.getElem_cons_zero, List.getElem_cons_succ]); go_simp; (try with_reducible rfl); all_goals (try omega))
        case rapfalse4 =>
        try simp only [Act.put, List.setIfInBounds_toArray, List.set_cons_zero, List.set_cons_succ, List.getElem_toArray, List.getElem_cons_zero, List.getElem_cons_succ]
        refine wpAnyH_take (i := 4) (v := .int .i64 y.par) rfl (by kernel_rfl) (by kernel_rfl) (by kernel_rfl) (fun _ _ _ h => h) (Or.inl ⟨by rfl, ?yapfalse5⟩) (by assumption) ?rapfalse5
        case yapfalse5 => (intro wq hSw; have cc := (cellsE hSw.1).c2; (try simp only [Nat.zero_add, Nat.add_zero] at cc); (try simp only [List.getElem_toArray, List.getElem_cons_zero, List.getElem_cons_succ]); go_simp; (try with_reducible rfl); all_goals (try omega))
        case rapfalse5 =>
        try simp only [Act.put, List.setIfInBounds_toArray, List.set_cons_zero, List.set_cons_succ, List.getElem_toArray, List.getElem_cons_zero, List.getElem_cons_succ]
        refine wpAnyH_take (i := 5) (v := .pointer (some ⟨X, 0, none⟩)) rfl (by kernel_rfl) (by kernel_rfl) (by kernel_rfl) (fun _ _ _ h => h) (Or.inl ⟨by rfl, ?yapfalse6⟩) (by assumption) ?rapfalse6
        case yapfalse6 => (intro wq hSw; (try simp only [List.getElem_toArray, List.getElem_cons_zero, List.getElem_cons_succ]); go_simp; (try with_reducible rfl); all_goals (try omega))
        case rapfalse6 =>
        try simp only [Act.put, List.setIfInBounds_toArray, List.set_cons_zero, List.set_cons_succ, List.getElem_toArray, List.getElem_cons_zero, List.getElem_cons_succ]
        refine wpAnyH_take (i := 6) (v := .int .i64 x.id) rfl (by kernel_rfl) (by kernel_rfl) (by kernel_rfl) (fun _ _ _ h => h) (Or.inl ⟨by rfl, ?yapfalse7⟩) (by assumption) ?rapfalse7
        case yapfalse7 => (intro wq hSw; have cc := (cellsE hSw.2).c0; (try simp only [Nat.zero_add, Nat.add_zero] at cc); (try simp only [List.getElem_toArray, List.getElem_cons_zero, List.getElem_cons_succ]); go_simp; (try with_reducible rfl); all_goals (try omega))
        case rapfalse7 =>
        try simp only [Act.put, List.setIfInBounds_toArray, List.set_cons_zero, List.set_cons_succ, List.getElem_toArray, List.getElem_cons_zero, List.getElem_cons_succ]
        refine wpAnyH_take (i := 7) (v := .bool false) rfl (by kernel_rfl) (by kernel_rfl) (by kernel_rfl) (fun _ _ _ h => h) (Or.inl ⟨by rfl, ?yapfalse8⟩) (by assumption) ?rapfalse8
        case yapfalse8 => (intro wq hSw; (try simp only [List.getElem_toArray, List.getElem_cons_zero, List.getElem_cons_succ]); go_simp; (try with_reducible rfl); all_goals (try omega))
        case rapfalse8 =>
        try simp only [Act.put, List.setIfInBounds_toArray, List.set_cons_zero, List.set_cons_succ, List.getElem_toArray, List.getElem_cons_zero, List.getElem_cons_succ]
        refine wpAnyH_done (by kernel_rfl) ?_ _
        clear hHeld
        clear q0
        go_wp2_with fail
        go_roundw
        case rel => exact ⟨k + 1, by omega, by go_num, congrArg Value.bool (by rw [HSN.out, regB_snoc, HRB.out, HQ.out, Bool.false_and, Bool.or_false]), congrArg Value.bool (by rw [HSN.out, othB_snoc, HOB.out, HQ.out, Bool.false_and, Bool.or_false]), HTR.out.drew⟩
        case measure => simp [intOf]; omega
      · have HQ := Lib.hid q0
        go_wp2_with fail
        refine wp_region_held_drew (S := fun wq => wq.rangeAt b (o + k * 10) y.vals ∧ wq.rangeAt X 0 x.vals) (by kernel_rfl) HS.out (fun hHeld => ?_)
        refine wpAnyH_take (i := 0) (v := .slice (some ⟨b, o, none⟩) n lc) rfl (by kernel_rfl) (by kernel_rfl) (by kernel_rfl) (fun _ _ _ h => h) (Or.inl ⟨by rfl, ?yaptrue1⟩) (by assumption) ?raptrue1
        case yaptrue1 => (intro wq hSw; (try simp only [List.getElem_toArray, List.getElem_cons_zero, List.getElem_cons_succ]); go_simp; (try with_reducible rfl); all_goals (try omega))
        case raptrue1 =>
        try simp only [Act.put, List.setIfInBounds_toArray, List.set_cons_zero, List.set_cons_succ, List.getElem_toArray, List.getElem_cons_zero, List.getElem_cons_succ]
        refine wpAnyH_take (i := 1) (v := .int .i64 ((k : Int))) rfl (by kernel_rfl) (by kernel_rfl) (by kernel_rfl) (fun _ _ _ h => h) (Or.inl ⟨by rfl, ?yaptrue2⟩) (by assumption) ?raptrue2
        case yaptrue2 => (intro wq hSw; (try simp only [List.getElem_toArray, List.getElem_cons_zero, List.getElem_cons_succ]); go_simp; (try with_reducible rfl); all_goals (try omega))
        case raptrue2 =>
        try simp only [Act.put, List.setIfInBounds_toArray, List.set_cons_zero, List.set_cons_succ, List.getElem_toArray, List.getElem_cons_zero, List.getElem_cons_succ]
        refine wpAnyH_take (i := 2) (v := .pointer (some ⟨b, o + k * 10, none⟩)) rfl (by kernel_rfl) (by kernel_rfl) (by kernel_rfl) (fun _ _ _ h => h) (Or.inl ⟨by rfl, ?yaptrue3⟩) (by assumption) ?raptrue3
        case yaptrue3 => (intro wq hSw; (try simp only [List.getElem_toArray, List.getElem_cons_zero, List.getElem_cons_succ]); go_simp; (try with_reducible rfl); all_goals (try omega))
        case raptrue3 =>
        try simp only [Act.put, List.setIfInBounds_toArray, List.set_cons_zero, List.set_cons_succ, List.getElem_toArray, List.getElem_cons_zero, List.getElem_cons_succ]
        refine wpAnyH_take (i := 3) (v := .pointer (some ⟨b, o + k * 10 + 2, none⟩)) rfl (by kernel_rfl) (by kernel_rfl) (by kernel_rfl) (fun _ _ _ h => h) (Or.inl ⟨by rfl, ?yaptrue4⟩) (by assumption) ?raptrue4
        case yaptrue4 => (intro wq hSw; (try simp only [List.getElem_toArray, List.getElem_cons_zero, List.getElem_cons_succ]); go_simp; (try with_reducible rfl); all_goals (try omega))
        case raptrue4 =>
        try simp only [Act.put, List.setIfInBounds_toArray, List.set_cons_zero, List.set_cons_succ, List.getElem_toArray, List.getElem_cons_zero, List.getElem_cons_succ]
        refine wpAnyH_take (i := 4) (v := .int .i64 y.par) rfl (by kernel_rfl) (by kernel_rfl) (by kernel_rfl) (fun _ _ _ h => h) (Or.inl ⟨by rfl, ?yaptrue5⟩) (by assumption) ?raptrue5
        case yaptrue5 => (intro wq hSw; have cc := (cellsE hSw.1).c2; (try simp only [Nat.zero_add, Nat.add_zero] at cc); (try simp only [List.getElem_toArray, List.getElem_cons_zero, List.getElem_cons_succ]); go_simp; (try with_reducible rfl); all_goals (try omega))
        case raptrue5 =>
        try simp only [Act.put, List.setIfInBounds_toArray, List.set_cons_zero, List.set_cons_succ, List.getElem_toArray, List.getElem_cons_zero, List.getElem_cons_succ]
        refine wpAnyH_take (i := 5) (v := .pointer (some ⟨X, 0, none⟩)) rfl (by kernel_rfl) (by kernel_rfl) (by kernel_rfl) (fun _ _ _ h => h) (Or.inl ⟨by rfl, ?yaptrue6⟩) (by assumption) ?raptrue6
        case yaptrue6 => (intro wq hSw; (try simp only [List.getElem_toArray, List.getElem_cons_zero, List.getElem_cons_succ]); go_simp; (try with_reducible rfl); all_goals (try omega))
        case raptrue6 =>
        try simp only [Act.put, List.setIfInBounds_toArray, List.set_cons_zero, List.set_cons_succ, List.getElem_toArray, List.getElem_cons_zero, List.getElem_cons_succ]
        refine wpAnyH_take (i := 6) (v := .int .i64 x.id) rfl (by kernel_rfl) (by kernel_rfl) (by kernel_rfl) (fun _ _ _ h => h) (Or.inl ⟨by rfl, ?yaptrue7⟩) (by assumption) ?raptrue7
        case yaptrue7 => (intro wq hSw; have cc := (cellsE hSw.2).c0; (try simp only [Nat.zero_add, Nat.add_zero] at cc); (try simp only [List.getElem_toArray, List.getElem_cons_zero, List.getElem_cons_succ]); go_simp; (try with_reducible rfl); all_goals (try omega))
        case raptrue7 =>
        try simp only [Act.put, List.setIfInBounds_toArray, List.set_cons_zero, List.set_cons_succ, List.getElem_toArray, List.getElem_cons_zero, List.getElem_cons_succ]
        refine wpAnyH_take (i := 7) (v := .bool true) rfl (by kernel_rfl) (by kernel_rfl) (by kernel_rfl) (fun _ _ _ h => h) (Or.inl ⟨by rfl, ?yaptrue8⟩) (by assumption) ?raptrue8
        case yaptrue8 => (intro wq hSw; (try simp only [List.getElem_toArray, List.getElem_cons_zero, List.getElem_cons_succ]); go_simp; (try with_reducible rfl); all_goals (try omega))
        case raptrue8 =>
        try simp only [Act.put, List.setIfInBounds_toArray, List.set_cons_zero, List.set_cons_succ, List.getElem_toArray, List.getElem_cons_zero, List.getElem_cons_succ]
        refine wpAnyH_done (by kernel_rfl) ?_ _
        clear hHeld
        clear q0
        have c1 := (cellsE HS.out.1).c1
        cases hkd : (y.kind == 2)
        · have HKD := Lib.hid hkd
          have hkn : (y.kind != 2) = true := by simpa using hkd
          have HKN := Lib.hid hkn
          cases R <;> cases O
          all_goals go_wp2_with fail
          all_goals go_roundw
          all_goals first
            | exact ⟨k + 1, by omega, by go_num, congrArg Value.bool (by rw [HSN.out, regB_snoc, HRB.out, HQ.out, HKD.out]; rfl), congrArg Value.bool (by rw [HSN.out, othB_snoc, HOB.out, HQ.out, HKN.out]; rfl), HTR.out.drew⟩
            | (simp [intOf]; omega)
        · have HKD := Lib.hid hkd
          have hkn : (y.kind != 2) = false := by simpa using hkd
          have HKN := Lib.hid hkn
          cases R <;> cases O
          all_goals go_wp2_with fail
          all_goals go_roundw
          all_goals first
            | exact ⟨k + 1, by omega, by go_num, congrArg Value.bool (by rw [HSN.out, regB_snoc, HRB.out, HQ.out, HKD.out]; rfl), congrArg Value.bool (by rw [HSN.out, othB_snoc, HOB.out, HQ.out, HKN.out]; rfl), HTR.out.drew⟩
            | (simp [intOf]; omega)
    · have hke : l.take k = l := List.take_of_length_le (by rw [HN.out]; omega)
      have HG := Lib.hid (show b8 l x = (R && O) from by rw [b8, ← HRB.out, ← HOB.out, hke])
      have dk : decide ((k : Int) < (n : Int)) = false := decide_eq_false (by omega)
      have HTR := Lib.hid htr
      clear htr hke
      cases R
      all_goals go_wp2_with fail
      all_goals go_ret
      all_goals exact ⟨by rw [HG.out]; rfl, T1.out.trans HTR.out (fun _ _ => id)⟩
end Go.Proofs.Ytkciaafkhpjnaaa
namespace Go.Proofs.Ytkciaafkhpjnaaa
set_option maxRecDepth 100000
open Go.RowKit
set_option linter.unusedVariables false
set_option linter.unusedSimpArgs false


theorem right_no_fine {l : List El} {k : Nat} (hk : k < l.length) (h : fineB (l.getD k el0) = false) : rightE l = false := by
  rw [rightE, allFine_no hk h, Bool.and_false, Bool.and_false]
set_option maxHeartbeats 4000000 in
theorem rright_any (w : World) (v : Value) (l : List El) (hv : RowV w v l) (hb : l.length ≤ 1000000000000) : Calls Try.prog 40 #[v] w fun e w' => e = .returned (.bool (rightE l)) ∧ Turn (fun _ => False) w w' := by
  obtain ⟨la, lc, rfl⟩ := hv.form
  obtain ⟨n, hn⟩ : ∃ n, l.length = n := ⟨_, rfl⟩
  rw [hn] at hv hb
  simp only [hn]
  have HV := Lib.hid hv
  have HN := Lib.hid hn
  have HRE := Lib.hid (show rightE l = (decide (n ≤ 40) && (risesB l && allFine l)) from by unfold rightE; rw [hn])
  clear hv hn
  by_cases h1 : 40 < n
  · have d1 : decide ((40 : Int) < (n : Int)) = true := decide_eq_true (by omega)
    have d2 : decide (n ≤ 40) = false := decide_eq_false (by omega)
    have D2 := Lib.hid d2
    go_enter Try.func40, Try.ntmps40
    go_wp2_with fail
    go_ret
    exact ⟨by rw [HRE.out, D2.out]; rfl, Turn.refl _ _⟩
  have d1 : decide ((40 : Int) < (n : Int)) = false := decide_eq_false (by omega)
  have D2 := Lib.hid (show decide (n ≤ 40) = true from decide_eq_true (by omega))
  cases hrb : risesB l
  · have HB := Lib.hid hrb
    clear hrb
    go_enter Try.func40, Try.ntmps40
    go_wp2_with (go_at_call 37; refine (rrises_any w _ l HV.out (by rw [HN.out]; exact hb)).mono ?_; rintro r w2 ⟨rfl, t2⟩; rw [HB.out]; have T2 := Lib.hid t2; clear t2)
    go_ret
    exact ⟨by rw [HRE.out, D2.out, HB.out]; rfl, T2.out⟩
  have HB := Lib.hid hrb
  clear hrb
  go_enter Try.func40, Try.ntmps40
  go_wp2_with (go_at_call 37; refine (rrises_any w _ l HV.out (by rw [HN.out]; exact hb)).mono ?_; rintro r w2 ⟨rfl, t2⟩; rw [HB.out]; have T2 := Lib.hid t2; clear t2)
  go_loopw [3] (fun iv wr => ∃ k : Nat, k ≤ n ∧ iv = .int .i64 (k : Int) ∧ (∀ j, j < k → fineB (l.getD j el0) = true) ∧ Turn (fun _ => False) w wr) (fun iv _ => n - (intOf iv).toNat)
  case atStart => exact ⟨0, Nat.zero_le _, rfl, fun j hj => by omega, T2.out⟩
  case round =>
    obtain ⟨k, hk, rfl, hbef, htr⟩ := hrel
    have HBEF := Lib.hid hbef
    have HTR := Lib.hid htr
    clear hbef htr
    by_cases hlt : k < n
    · obtain ⟨b, o, rfl, hc, hs1⟩ := (HV.out.turn HTR.out (fun _ _ => id)).one HN.out k hlt
      have gi : (0 : Int) ≤ (k : Int) ∧ (k : Int) < (n : Int) := by omega
      have dk : decide ((k : Int) < (n : Int)) = true := decide_eq_true (by omega)
      obtain ⟨x, hx⟩ : ∃ x, l.getD k el0 = x := ⟨_, rfl⟩
      rw [hx] at hs1
      have HX := Lib.hid hx
      have HS := Lib.hid hs1
      clear hx hs1
      have hbb := box_alloc wr 38 el0.vals
      obtain ⟨E, hE⟩ : ∃ E, wr.heap.size = E := ⟨_, rfl⟩
      obtain ⟨wz, hwz⟩ : ∃ wz, wr.alloc (.cells el0.vals.toArray 38) = wz := ⟨_, rfl⟩
      have hx0 : ∀ ev op, op.op = .alloc 38 → (execOp ev op).run Try.prog wr = .ok (.value (.pointer (some ⟨E, 0, none⟩))) wz := fun ev op ho => by rw [← hwz, ← hE]; exact exec_zero24 ev op ho _
      rw [hwz] at hbb
      have hhh := hbb.heap
      rw [hE] at hhh
      have HX0 := Lib.hid hx0
      have HBB := Lib.hid hbb.turn
      have HHB := Lib.hid hhh
      have HEE := Lib.hid hE
      clear hbb hE hwz hx0 hhh
      go_wp2_with (with_reducible (show wpList _ _ _ (Oper.mk (some 24) (.load 38 (.tmp 23)) _ _ _ _ :: _) _ _); refine still ?_)
      refine wpList_load_mid rfl 38 (.tmp 23) rfl b (o + k * 10) rfl x.vals _ HS.out Try.underlying38 rfl el_info ?_
      go_wp2_with (with_reducible (show wpList _ _ _ (Oper.mk (some 4) (.alloc 38) _ _ _ _ :: _) _ _); refine still ?_)
      refine list_exec rfl _ _ (HX0.out _ _ rfl) ?_
      go_wp2_with (with_reducible (show wpList _ _ _ (Oper.mk none (.store 38 (.tmp 4) (.tmp 24)) _ _ _ _ :: _) _ _); refine still ?_)
      refine list_put wz E 38 el0.vals x.vals HHB.out rfl x.vals_one el_info rfl (.tmp 4) (.tmp 24) rfl rfl rfl (fun wa h2 t2 => ?_)
      have HE := Lib.hid h2
      have Twa := Lib.hid (show Turn (fun _ => False) wr wa from HBB.out.trans t2 (fun q hq e => by have := HEE.out; omega))
      have LE := Lib.hid (show wr.heap.size = E from HEE.out)
      clear h2 t2 HX0 HBB HHB HEE
      have c0 := (cellsE (range_of HE.out)).c0
      simp only [Nat.zero_add] at c0
      have TA := Lib.hid (HTR.out.trans Twa.out (fun _ _ => id))
      by_cases h1 : x.id < 1
      · have HF := Lib.hid (fine_id (x := x) (by omega))
        have d1 : decide (x.id < 1) = true := decide_eq_true h1
        go_wp2_with fail
        go_ret
        exact ⟨by rw [right_no_fine (k := k) (by rw [HN.out]; exact hlt) (by rw [HX.out]; exact HF.out)]; rfl, TA.out⟩
      have e1 : decide (x.id < 1) = false := decide_eq_false h1
      by_cases h2 : 1048576 < x.id
      · have HF := Lib.hid (fine_id (x := x) (by omega))
        have d2 : decide (1048576 < x.id) = true := decide_eq_true h2
        go_wp2_with fail
        go_ret
        exact ⟨by rw [right_no_fine (k := k) (by rw [HN.out]; exact hlt) (by rw [HX.out]; exact HF.out)]; rfl, TA.out⟩
      have e2 : decide (1048576 < x.id) = false := decide_eq_false h2
      obtain ⟨B, w3, hx3, hc3, t3⟩ := row_n4 wa x
      have HX3 := Lib.hid hx3
      have HC3 := Lib.hid hc3
      have T3 := Lib.hid t3
      have TB := Lib.hid (TA.out.trans t3 (fun _ _ => id))
      clear hx3 hc3 t3
      obtain ⟨_, c1, c2, c3, c4, c5, c6, c7, c8, c9⟩ := cellsE (range_of HE.out)
      simp only [Nat.zero_add] at c2 c3 c5 c6
      clear c1 c4 c7 c8 c9
      go_wp2_with (with_reducible (show wpList _ _ _ (Oper.mk (some 41) _ _ _ _ _ :: _) _ _); refine still ?_)
      refine list_exec rfl _ _ (HX3.out _ _ (.tmp 34) (.tmp 36) (.tmp 38) (.tmp 40) rfl rfl rfl rfl rfl) ?_
      clear c0 c2 c3 c5 c6
      go_wp2_with fail
      go_loop [43] (fun iv => ∃ i : Nat, i ≤ 4 ∧ iv = .int .i64 (i : Int) ∧ ∀ j, j < i → okN (nsP x j) = true) (fun iv => 4 - (intOf iv).toNat)
      case atStart => exact ⟨0, Nat.zero_le _, rfl, fun j hj => by omega⟩
      case round =>
        obtain ⟨i, hi, rfl, hall⟩ := hrel
        have HA := Lib.hid hall
        clear hall
        by_cases hl4 : i < 4
        · have cc := HC3.out i hl4
          have gk : (0 : Int) ≤ (i : Int) ∧ (i : Int) < 4 := by omega
          have dk : decide ((i : Int) < 4) = true := decide_eq_true (by omega)
          obtain ⟨N, hN⟩ : ∃ N, nsP x i = N := ⟨_, rfl⟩
          rw [hN] at cc
          have HN2 := Lib.hid hN
          clear hN
          by_cases n1 : N < 0
          · have f1 : decide (N < 0) = true := decide_eq_true n1
            have HF := Lib.hid (fine_ns (x := x) hl4 (by rw [HN2.out]; unfold okN; exact decide_eq_false (by omega)))
            go_wp2_with fail
            go_ret
            exact ⟨by rw [right_no_fine (k := k) (by rw [HN.out]; exact hlt) (by rw [HX.out]; exact HF.out)]; rfl, TB.out⟩
          · have f1 : decide (N < 0) = false := decide_eq_false n1
            by_cases n2 : 1048576 < N
            · have f2 : decide (1048576 < N) = true := decide_eq_true n2
              have HF := Lib.hid (fine_ns (x := x) hl4 (by rw [HN2.out]; unfold okN; exact decide_eq_false (by omega)))
              go_wp2_with fail
              go_ret
              exact ⟨by rw [right_no_fine (k := k) (by rw [HN.out]; exact hlt) (by rw [HX.out]; exact HF.out)]; rfl, TB.out⟩
            · have f2 : decide (1048576 < N) = false := decide_eq_false n2
              have HG := Lib.hid (show okN N = true from by unfold okN; exact decide_eq_true (by omega))
              go_wp2_with fail
              go_round
              case rel => exact ⟨i + 1, by omega, by go_num, fun j hj => by
                by_cases e : j = i
                · subst e; rw [HN2.out]; exact HG.out
                · exact HA.out j (by omega)⟩
              case measure => simp [intOf]; omega
        · obtain rfl : i = 4 := by omega
          have dk : decide (((4 : Nat) : Int) < 4) = false := by decide
          obtain ⟨_, c1, c2, c3, c4, c5, c6, c7, c8, c9⟩ := cellsE (rangeAt_turn (range_of HE.out) T3.out id)
          simp only [Nat.zero_add] at c4 c7 c8 c9
          clear c1 c2 c3 c5 c6
          by_cases s0 : 12 < x.name.size
          · have f0 : decide ((12 : Int) < (x.name.size : Int)) = true := decide_eq_true (by omega)
            have g0 : decide (12 < x.name.size) = true := decide_eq_true s0
            have HF := Lib.hid (fine_ss (x := x) (k := 0) (by omega) s0)
            go_wp2_with fail
            go_ret
            exact ⟨by rw [right_no_fine (k := k) (by rw [HN.out]; exact hlt) (by rw [HX.out]; exact HF.out)]; rfl, TB.out⟩
          have f0 : decide ((12 : Int) < (x.name.size : Int)) = false := decide_eq_false (by omega)
          have g0 : decide (12 < x.name.size) = false := decide_eq_false s0
          by_cases s1 : 12 < x.ev.size
          · have f1 : decide ((12 : Int) < (x.ev.size : Int)) = true := decide_eq_true (by omega)
            have g1 : decide (12 < x.ev.size) = true := decide_eq_true s1
            have HF := Lib.hid (fine_ss (x := x) (k := 1) (by omega) s1)
            go_wp2_with fail
            go_ret
            exact ⟨by rw [right_no_fine (k := k) (by rw [HN.out]; exact hlt) (by rw [HX.out]; exact HF.out)]; rfl, TB.out⟩
          have f1 : decide ((12 : Int) < (x.ev.size : Int)) = false := decide_eq_false (by omega)
          have g1 : decide (12 < x.ev.size) = false := decide_eq_false s1
          by_cases s2 : 12 < x.gd.size
          · have f2 : decide ((12 : Int) < (x.gd.size : Int)) = true := decide_eq_true (by omega)
            have g2 : decide (12 < x.gd.size) = true := decide_eq_true s2
            have HF := Lib.hid (fine_ss (x := x) (k := 2) (by omega) s2)
            go_wp2_with fail
            go_ret
            exact ⟨by rw [right_no_fine (k := k) (by rw [HN.out]; exact hlt) (by rw [HX.out]; exact HF.out)]; rfl, TB.out⟩
          have f2 : decide ((12 : Int) < (x.gd.size : Int)) = false := decide_eq_false (by omega)
          have g2 : decide (12 < x.gd.size) = false := decide_eq_false s2
          by_cases s3 : 12 < x.ac.size
          · have f3 : decide ((12 : Int) < (x.ac.size : Int)) = true := decide_eq_true (by omega)
            have g3 : decide (12 < x.ac.size) = true := decide_eq_true s3
            have HF := Lib.hid (fine_ss (x := x) (k := 3) (by omega) s3)
            go_wp2_with fail
            go_ret
            exact ⟨by rw [right_no_fine (k := k) (by rw [HN.out]; exact hlt) (by rw [HX.out]; exact HF.out)]; rfl, TB.out⟩
          have f3 : decide ((12 : Int) < (x.ac.size : Int)) = false := decide_eq_false (by omega)
          have g3 : decide (12 < x.ac.size) = false := decide_eq_false s3
          have HF := Lib.hid (fine_all (x := x) (by omega) HA.out (fun j hj => by
            rcases (by omega : j = 0 ∨ j = 1 ∨ j = 2 ∨ j = 3) with rfl | rfl | rfl | rfl
            · exact Nat.le_of_not_lt s0
            · exact Nat.le_of_not_lt s1
            · exact Nat.le_of_not_lt s2
            · exact Nat.le_of_not_lt s3))
          clear s0 s1 s2 s3
          go_wp2_with fail
          go_roundw
          case rel => exact ⟨k + 1, by omega, by go_num, fun j hj => by
            by_cases e : j = k
            · subst e; rw [HX.out]; exact HF.out
            · exact HBEF.out j (by omega), TB.out⟩
          case measure => simp [intOf]; omega
    · have dk : decide ((k : Int) < (n : Int)) = false := decide_eq_false (by omega)
      have HF := Lib.hid (allFine_yes (l := l) (fun j hj => HBEF.out j (by rw [HN.out] at hj; omega)))
      go_wp2_with fail
      go_ret
      exact ⟨by rw [HRE.out, D2.out, HB.out, HF.out]; rfl, HTR.out⟩
end Go.Proofs.Ytkciaafkhpjnaaa
