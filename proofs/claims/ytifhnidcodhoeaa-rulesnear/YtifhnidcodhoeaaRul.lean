/- Own contracts: the document's rules: the small ones. No statement is proved here. -/
import Derived.Test.YtifhnidcodhoeaaFt
import Derived.Deep.Cut
import Derived.Deep.CutRange
namespace Go.Proofs.Ytifhnidcodhoeaa
set_option maxRecDepth 100000
open Go.RowKit
set_option linter.unusedVariables false
set_option linter.unusedSimpArgs false

def namedE (e : El) : Bool := e.kind == 1 || e.kind == 2
theorem named_any (x : El) (w : World) : Calls Try.prog 21 #[.agg x.vals.toArray] w fun r w' => r = .returned (.bool (namedE x)) ∧ Turn (fun _ => False) w w' := by
  have hbx := box_alloc w 35 x.vals
  obtain ⟨X, hX⟩ : ∃ X, w.heap.size = X := ⟨_, rfl⟩
  obtain ⟨w1, hw1⟩ : ∃ w1, w.alloc (.cells x.vals.toArray 35) = w1 := ⟨_, rfl⟩
  rw [hw1] at hbx
  have c1 := hbx.cell 1 (.int .u8 x.kind) rfl
  rw [hX] at c1
  have T1 := Lib.hid hbx.turn
  clear hbx
  go_enter Try.func21, Try.ntmps21
  by_cases h1 : x.kind = 1
  · have d1 : (x.kind == 1) = true := by simpa using h1
    have H1 := Lib.hid d1
    go_wp2_with fail
    go_ret
    exact ⟨by rw [namedE, H1.out]; rfl, T1.out⟩
  · have d1 : (x.kind == 1) = false := by simpa using h1
    have H1 := Lib.hid d1
    go_wp2_with fail
    go_ret
    exact ⟨by rw [namedE, H1.out, Bool.false_or]; rfl, T1.out⟩
def atE (c : List El) (id : Int) : Option El := c.find? fun x => decide (x.id = id)
def kindE (c : List El) (id : Int) : Int := match atE c id with
  | some x => x.kind
  | none => 0
theorem atE_some {c : List El} {id : Int} {k : Nat} (hk : k < c.length) (h : (c.getD k el0).id = id) (hn : ∀ j, j < k → (c.getD j el0).id ≠ id) : atE c id = some (c.getD k el0) := by
  unfold atE
  rw [List.find?_eq_some_iff_getElem]
  have hg : ∀ (j : Nat) (hj : j < c.length), c[j] = c.getD j el0 := fun j hj => by simp [List.getD, hj]
  refine ⟨by simpa using h, k, hk, hg k hk, fun j hj => ?_⟩
  rw [hg j (by omega)]
  simpa using hn j hj
theorem atE_none {c : List El} {id : Int} (h : ∀ j, j < c.length → (c.getD j el0).id ≠ id) : atE c id = none := by
  unfold atE
  rw [List.find?_eq_none]
  intro x hx
  obtain ⟨j, hj, rfl⟩ := List.mem_iff_getElem.1 hx
  have := h j hj
  simp only [List.getD, List.getElem?_eq_getElem hj, Option.getD_some] at this
  simpa using this
theorem range_kind {w : World} {g o : Nat} {x : El} (h : w.rangeAt g o x.vals) : w.cell? ⟨g, o + 1, none⟩ = some (.int .u8 x.kind) := h 1 _ rfl
theorem kind_any (w : World) (v : Value) (l : List El) (nr : Int) (hv : RowV w v l) (hb : l.length ≤ 1000) : Calls Try.prog 33 #[v, .int .i64 nr] w fun r w' => r = .returned (.int .u8 (kindE l nr)) ∧ w = w' := by
  obtain ⟨la, lc, rfl⟩ := hv.form
  obtain ⟨n, hn⟩ : ∃ n, l.length = n := ⟨_, rfl⟩
  rw [hn] at hv hb
  simp only [hn]
  have HV := Lib.hid hv
  have HN := Lib.hid hn
  clear hv hn
  go_enter Try.func33, Try.ntmps33
  go_wp2_with fail
  refine (rfind_any w _ l nr HV.out (by rw [HN.out]; exact hb)).mono ?_
  rintro r w' ⟨⟨k, hk, hid, hne, rfl⟩ | ⟨hne, rfl⟩, rfl⟩
  · have HE := Lib.hid (atE_some hk hid hne)
    rw [HN.out] at hk
    clear hid hne
    obtain ⟨b, o, rfl, hc, hs1⟩ := HV.out.one HN.out k hk
    generalize hx : l.getD k el0 = x at *
    have c1 := range_kind hs1
    have gi : (0 : Int) ≤ (k : Int) ∧ (k : Int) < (n : Int) := by omega
    have dk : decide ((k : Int) < 0) = false := decide_eq_false (by omega)
    clear hs1 hx
    go_wp2_with fail
    go_ret
    exact ⟨by rw [kindE, HE.out]; rfl, rfl⟩
  · have HE := Lib.hid (atE_none hne)
    clear hne
    go_wp2_with fail
    go_ret
    exact ⟨by rw [kindE, HE.out]; rfl, rfl⟩
/-- A short text by a number. -/
def textE (n : Int) : ByteArray := if n % 4 = 0 then ByteArray.empty else strOfNums [97 + n % 26, 48 + n % 10]
theorem rtext_any (n : Int) (hn : 0 ≤ n ∧ n < 256) (w : World) : Calls Try.prog 20 #[.int .i64 n] w fun r w' => r = .returned (.string (textE n)) ∧ Turn (fun _ => False) w w' := by
  have hb := box_alloc w 5 [.int .u8 (97 + n % 26), .int .u8 (48 + n % 10)]
  have hr : Reads (w.alloc (.cells #[.int .u8 (97 + n % 26), .int .u8 (48 + n % 10)] 5)) (.slice (some ⟨w.heap.size, 0, none⟩) 2 2) [97 + n % 26, 48 + n % 10] := by
    refine .inr ⟨w.heap.size, 0, 2, rfl, Nat.le_refl _, fun i hi => ?_⟩
    rw [cell_of_row _ _ _ _ 5 (0, 0) (heap_alloc_new w _)]
    have : i = 0 ∨ i = 1 := by simp at hi; omega
    rcases this with rfl | rfl <;> rfl
  have hcv := hr.conv
  have t1 : Turn (fun _ => False) w (w.alloc (.cells #[.int .u8 (97 + n % 26), .int .u8 (48 + n % 10)] 5)) := hb.turn
  obtain ⟨w1, hw1⟩ : ∃ w1, w.alloc (.cells #[.int .u8 (97 + n % 26), .int .u8 (48 + n % 10)] 5) = w1 := ⟨_, rfl⟩
  rw [hw1] at hcv t1
  have T1 := Lib.hid t1
  clear hb hr t1
  have m4 : n.tmod 4 = n % 4 := Int.tmod_eq_emod_of_nonneg hn.1
  have m26 : n.tmod 26 = n % 26 := Int.tmod_eq_emod_of_nonneg hn.1
  have m10 : n.tmod 10 = n % 10 := Int.tmod_eq_emod_of_nonneg hn.1
  go_enter Try.func20, Try.ntmps20
  by_cases h : n % 4 = 0
  · have d : (n % 4 == 0) = true := by simpa using h
    have H := Lib.hid h
    go_wp2_with fail
    go_ret
    exact ⟨by rw [textE, if_pos H.out]; rfl, Turn.refl _ _⟩
  · have d : (n % 4 == 0) = false := by simpa using h
    have H := Lib.hid h
    clear h
    go_wp2_with fail
    go_ret
    exact ⟨by rw [textE, if_neg H.out]; rfl, T1.out⟩
end Go.Proofs.Ytifhnidcodhoeaa
