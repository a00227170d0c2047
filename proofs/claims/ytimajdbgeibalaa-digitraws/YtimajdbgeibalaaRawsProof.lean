/-
  DigitRaws, for every input: the law returns true, and each argument reads afterwards as it read before. Conditions: none beyond the row's own.
-/
import Derived.Test.YtimajdbgeibalaaRaws
import Derived.WalkKit
import Derived.ProofKit
import Derived.OpenShut
import Derived.ShutString
import Derived.ChangeOld
import Derived.Below
namespace Go.Proofs.Ytimajdbgeibalaa.digitRaws
open Go.ChangeShapes Go.WideShapes Go.ChangeAt Go.RowKit
open Go.ChangeMaps (open_string shut_string)
set_option linter.unusedVariables false

theorem own : ownKnob Try.prog.godebug = none := by kernel_rfl
theorem laidOut : laidOutB Try.prog = true := by kernel_rfl

/-- WHAT THE WALK IS TOLD OF A SLICE OF INTEGERS THAT CAME IN: it is nil; or it leads to a row of 'cap' cells, the numbers 'zs' (the first 'len' are its elements, the rest its spare room), each fitting its kind. -/
def IsRow (k : IntKind) (w : World) (a : Option Addr) (len cap : Nat) (zs : List Int) : Prop :=
  (a = none ∧ len = 0 ∧ cap = 0 ∧ zs = []) ∨
  ∃ x, a = some x ∧ len ≤ cap ∧ cap ≤ maxLen ∧ zs.length = cap ∧ (∀ i, i < zs.length → w.cell? (x.add i) = some (.int k (zs.getD i 0))) ∧ ∀ n ∈ zs, (Lit.int k n).wf = true

theorem src_of_row {w : World} {x : Addr} {len cap : Nat} {zs : List Int} (hl : len ≤ cap) (hz : zs.length = cap) (hc : ∀ i, i < zs.length → w.cell? (x.add i) = some (.int .u8 (zs.getD i 0))) :
    Src w (.slice (some x) len cap) (zs.take len) ∧ (0 < len → ∃ g o, x = ⟨g, o, none⟩ ∧ Reads w (.slice (some x) len cap) (zs.take len)) := by
  have hlen : (zs.take len).length = len := by simp; omega
  by_cases h0 : 0 < len
  · obtain ⟨b, off, rfl, hcell⟩ := ints_at hc (by omega)
    have hr : Reads w (.slice (some ⟨b, off, none⟩) len cap) (zs.take len) := by
      refine .inr ⟨b, off, cap, by rw [hlen], by omega, fun i hi => ?_⟩
      rw [hcell i (by omega)]
      simp [List.getD, show i < len by omega]
    exact ⟨.inl hr, fun _ => ⟨b, off, rfl, hr⟩⟩
  · obtain rfl : len = 0 := by omega
    exact ⟨.inr ⟨x, cap, rfl, by simp⟩, fun h => by omega⟩

theorem walk (a0 : Option Addr) (len0 cap0 : Nat) (z0 : List Int) (a1 : Int) (w : World) (w0 : IsRow .u8 w a0 len0 cap0 z0) (w1 : (Lit.int .i64 a1).wf = true) :
    Calls Try.prog 6 #[.slice a0 len0 cap0, .int .i64 a1] w fun e w' => e = .returned (.bool true) ∧ Below w.heap.size w w' := by
  have hb : -9223372036854775808 ≤ a1 ∧ a1 ≤ 9223372036854775807 := by simpa [Lit.wf, IntKind.min, IntKind.max, IntKind.signed, IntKind.bits] using w1
  have fin : ∀ e w', TrueNew w e w' → e = .returned (.bool true) ∧ Below w.heap.size w w' := fun e w' h => ⟨h.1, h.2.below (Nat.le_refl _) (fun _ _ => id)⟩
  by_cases hlong : 60 < len0
  · exact (raws_long a0 len0 cap0 a1 w hlong).mono fin
  rcases w0 with ⟨rfl, rfl, rfl, rfl⟩ | ⟨x, rfl, hl, hm, hz, hc, _⟩
  · have hs : Src w (.slice none 0 0) [] := .inl (.inl ⟨rfl, rfl⟩)
    rcases Int.lt_trichotomy a1 0 with h | rfl | h
    · exact (raws_neg_nil a1 w hs h).mono fin
    · exact (raws_zero_nil w hs).mono fin
    · exact (raws_over none 0 [] a1 w (by simp) hs (by simpa using h)).mono fin
  · have hlen : (z0.take len0).length = len0 := by simp; omega
    obtain ⟨hs, hr⟩ := src_of_row hl hz hc
    rcases Int.lt_trichotomy a1 0 with h | rfl | h
    · have := raws_neg_some x cap0 (z0.take len0) a1 w (by omega) (by rw [hlen]; exact hs) h
      rw [hlen] at this; exact this.mono fin
    · have := raws_zero_some x cap0 (z0.take len0) w (by omega) (by rw [hlen]; exact hs)
      rw [hlen] at this; exact this.mono fin
    · by_cases hov : (len0 : Int) < a1
      · have := raws_over (some x) cap0 (z0.take len0) a1 w (by omega) (by rw [hlen]; exact hs) (by rw [hlen]; exact hov)
        rw [hlen] at this; exact this.mono fin
      · obtain ⟨n, rfl⟩ := Int.eq_ofNat_of_zero_le (show 0 ≤ a1 by omega)
        obtain ⟨g, o, rfl, hr'⟩ := hr (by omega)
        have := raws_some g o cap0 (z0.take len0) n w (by omega) (by omega) (by rw [hlen]; exact hr') (by omega) (by omega)
        rw [hlen] at this; exact this.mono fin

/-! ### THE ROW's STEP: WRITTEN OUT: LEAVE IT -/
set_option maxRecDepth 100000 in
theorem lifted (os : Os) (started : os.Started) (H : Type) (enc : TypeId × Value → H) :
    ReturnsInHanded {} Try.checked os 6 .any (Rows.digitRawsSpec.pre6 enc Try.prog Try.f6 Rows.digitRawsRow.domain false) (Rows.digitRawsSpec.post enc Try.prog Try.f6 false true false false) := by
  refine returnsInHanded_of_change (C := Try.checked) own started (by kernel_rfl) Try.func6
    (ChangeSpec.witness6 (enc := enc) (C := Try.checked) false ⟨#[], #[.slice none 0 0, .int .i64 0], []⟩ 8 (by kernel_rfl) (by kernel_rfl) (by kernel_rfl) (by kernel_rfl)) ?_
  intro W base args ds gs before hval0 hW hcnd _
  have hval : ∀ (j : Nat) t v, Try.f6.params[j]? = some t → args[j]? = some v → Value.okWide Try.prog W .any base t v := hval0
  have hW' := hW
  obtain ⟨p, q, hA0, hV, rfl, hfz, hnd⟩ := hW
  have hA : DataW.TrodAll enc Try.prog W 0 (fun _ => true) true Try.f6.params.toList args.toList ds p := hA0
  rw [Try.params6] at hA hval
  obtain ⟨v0, vs0, d0, ds0, p0, q0, hargs, rfl, rfl, h0, r0⟩ := trodAll_cons hA
  obtain ⟨v1, vs1, d1, ds1, p1, q1, rfl, rfl, rfl, h1, r1⟩ := trodAll_cons r0
  obtain ⟨rfl, rfl, rfl⟩ := trodAll_nil r1
  obtain rfl : args = #[v0, v1] := by cases args; simp_all
  obtain ⟨rfl, rfl⟩ := trodVars_none hV
  obtain ⟨a0, len0, cap0, rfl⟩ := okWide_slice Try.underlying25 (hval 0 25 v0 rfl rfl)
  have k0 := h0
  have lt0 : ∀ x ∈ p0, x.block < W.heap.size := by obtain ⟨m, hm⟩ := k0; exact DataW.trod_lt m _ _ _ hm
  obtain ⟨z0, w0⟩ : ∃ zs, IsRow .u8 W a0 len0 cap0 zs := by
    obtain ⟨fuel, hf⟩ := h0
    rcases open_ints Try.underlying25 Try.underlying5 (by kernel_rfl) hf with ⟨hcs, _⟩ | ⟨x, l, c, zs, hcs, _, hl, hm, hz, _, hcell, hwz⟩
    · simp [Value.cells] at hcs
      obtain ⟨rfl, rfl, rfl⟩ := hcs
      exact ⟨[], .inl ⟨rfl, rfl, rfl, rfl⟩⟩
    · simp [Value.cells] at hcs
      obtain ⟨rfl, rfl, rfl⟩ := hcs
      exact ⟨zs, .inr ⟨_, rfl, hl, hm, by simpa using hz, hcell, hwz⟩⟩
  obtain ⟨a1, rfl, rfl, rfl, w1⟩ := open_int Try.underlying3 (hval 1 3 v1 rfl rfl) h1
  clear hA0 hval0
  refine (walk a0 len0 cap0 z0 a1 W w0 w1).mono fun e W' ⟨he, bel⟩ => ?_
  subst he
  exact ⟨_, rfl, _, _, _, [], _, [], hW', trodAll_mk1 (shut_bool Try.underlying4 _), (trodAll_cons_mk (Below.trod laidOut (by kernel_rfl) (of_decide_eq_true (by kernel_rfl)) k0 bel lt0) (trodAll_cons_mk (shut_int Try.underlying3 w1) trodAll_mk0)), rfl, bel.frame _, fun h => by cases h⟩

theorem over : Rows.digitRawsRow.holds Try.pinned (OpenSpec.ofChange Rows.digitRawsSpec) :=
  OpenClaim.holds_of_wide 6 Try.f6 rfl rfl rfl rfl rfl rfl rfl ⟨rfl, rfl, rfl, rfl, rfl⟩ rfl rfl rfl rfl rfl (by kernel_rfl) Try.func6 (by kernel_rfl)
    (of_decide_eq_true (by kernel_rfl)) (by unfold Func.isWrapper; first | (rw [if_pos (by decide +kernel)]; kernel_rfl) | (rw [if_neg (by decide +kernel)]; exact ⟨rfl, rfl⟩))
    (fun os started H enc _ => lifted os started H enc)

end Go.Proofs.Ytimajdbgeibalaa.digitRaws

namespace Go.Proofs.Ytimajdbgeibalaa
theorem digitRaws_holds : Rows.DigitRawsSaid := digitRaws.over
#print axioms digitRaws_holds
end Go.Proofs.Ytimajdbgeibalaa

