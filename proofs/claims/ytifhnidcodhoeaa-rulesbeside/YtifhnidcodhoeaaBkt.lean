/- Own contracts: beside: kit. No statement is proved here. -/
import Derived.Test.YtifhnidcodhoeaaOka
namespace Go.Proofs.Ytifhnidcodhoeaa
set_option maxRecDepth 100000
open Go.RowKit
set_option linter.unusedVariables false
set_option linter.unusedSimpArgs false

theorem fine_st {id kind par : Int} {nm : ByteArray} (hi : 1 ≤ id ∧ id ≤ 1048576) (hp : 0 ≤ par ∧ par ≤ 1048576) (hn : nm.size ≤ 12) : Fine (El.mk id kind par 0 nm 0 0 ByteArray.empty ByteArray.empty ByteArray.empty) := by
  have z : (0 : Int) ≤ 0 ∧ (0 : Int) ≤ 1048576 := by decide
  have e : ByteArray.empty.size ≤ 12 := by decide
  exact ⟨hi, hp, z, z, z, hn, e, e, e⟩
def besL (a b : ByteArray) (p : Int) : List El := [(El.mk 1 1 0 0 ({ data := #[116, 111, 112] } : ByteArray) 0 0 ByteArray.empty ByteArray.empty ByteArray.empty), (El.mk 2 1 1 0 a 0 0 ByteArray.empty ByteArray.empty ByteArray.empty), (El.mk 3 1 p 0 b 0 0 ByteArray.empty ByteArray.empty ByteArray.empty)]
theorem bes_right {a b : ByteArray} {p : Int} (ha : a.size ≤ 12) (hb : b.size ≤ 12) (hp : p = 1 ∨ p = 2) : rightE (besL a b p) = true := by
  refine right_iff.2 ⟨by show 3 ≤ 40; omega, ?_, ?_⟩
  · unfold Rises besL
    simp
  · intro x hx
    simp only [besL, List.mem_cons, List.not_mem_nil, or_false] at hx
    rcases hx with rfl | rfl | rfl
    · exact fine_iff.1 (by decide +kernel)
    · exact fine_st (by omega) (by omega) ha
    · exact fine_st (by omega) (by omega) hb
theorem bes_check {a b : ByteArray} {p : Int} (ha : a.size ≤ 12) (hb : b.size ≤ 12) (hp : p = 1 ∨ p = 2) (A B E : Bool) (hA : a.toList.isEmpty = A) (hB : b.toList.isEmpty = B) (hE : (a.toList == b.toList) = E) :
    checkE (besL a b p) = if A = true then (3, 2) else if B = true then (3, 3) else if (E && p == 1) = true then (3, 2) else (0, 0) := by
  have hE2 : (b.toList == a.toList) = E := by rw [← hE, Bool.eq_iff_iff, beq_iff_eq, beq_iff_eq]; exact eq_comm
  rw [checkE, if_pos (bes_right ha hb hp)]
  have r2 : (besL a b p).find? (fun x => breaksB (besL a b p) x 2) = none := by rcases hp with rfl | rfl <;> kernel_rfl
  have r4 : (besL a b p).find? (fun x => breaksB (besL a b p) x 4) = none := by rcases hp with rfl | rfl <;> kernel_rfl
  have r5 : (besL a b p).find? (fun x => breaksB (besL a b p) x 5) = none := by rcases hp with rfl | rfl <;> kernel_rfl
  have r6 : (besL a b p).find? (fun x => breaksB (besL a b p) x 6) = none := by rcases hp with rfl | rfl <;> kernel_rfl
  have r7 : (besL a b p).find? (fun x => breaksB (besL a b p) x 7) = none := by rcases hp with rfl | rfl <;> kernel_rfl
  have r8 : (besL a b p).find? (fun x => breaksB (besL a b p) x 8) = none := by rcases hp with rfl | rfl <;> kernel_rfl
  have k1 : breaksB (besL a b p) (El.mk 1 1 0 0 ({ data := #[116, 111, 112] } : ByteArray) 0 0 ByteArray.empty ByteArray.empty ByteArray.empty) 3 = false := by rcases hp with rfl | rfl <;> kernel_rfl
  have k2 : breaksB (besL a b p) (El.mk 2 1 1 0 a 0 0 ByteArray.empty ByteArray.empty ByteArray.empty) 3 = ((E && p == 1) || A) := by
    rcases hp with rfl | rfl <;> simp [breaksB, b3, besL, p3, namedE, hA, hE2]
  have k3 : breaksB (besL a b p) (El.mk 3 1 p 0 b 0 0 ByteArray.empty ByteArray.empty ByteArray.empty) 3 = ((E && p == 1) || B) := by
    rcases hp with rfl | rfl <;> simp [breaksB, b3, besL, p3, namedE, hB, hE]
  have r3 : (besL a b p).find? (fun x => breaksB (besL a b p) x 3) = if ((E && p == 1) || A) = true then some (El.mk 2 1 1 0 a 0 0 ByteArray.empty ByteArray.empty ByteArray.empty) else if ((E && p == 1) || B) = true then some (El.mk 3 1 p 0 b 0 0 ByteArray.empty ByteArray.empty ByteArray.empty) else none := by
    show List.find? (fun x => breaksB (besL a b p) x 3) [(El.mk 1 1 0 0 ({ data := #[116, 111, 112] } : ByteArray) 0 0 ByteArray.empty ByteArray.empty ByteArray.empty), (El.mk 2 1 1 0 a 0 0 ByteArray.empty ByteArray.empty ByteArray.empty), (El.mk 3 1 p 0 b 0 0 ByteArray.empty ByteArray.empty ByteArray.empty)] = _
    simp only [List.find?_cons, List.find?_nil, k1, k2, k3]
    cases (E && p == 1 || A) <;> cases (E && p == 1 || B) <;> rfl
  simp only [checkN, show (8 : Int) - ((6 : Nat) : Int) = 2 from rfl, show (8 : Int) - ((5 : Nat) : Int) = 3 from rfl, show (8 : Int) - ((4 : Nat) : Int) = 4 from rfl, show (8 : Int) - ((3 : Nat) : Int) = 5 from rfl, show (8 : Int) - ((2 : Nat) : Int) = 6 from rfl, show (8 : Int) - ((1 : Nat) : Int) = 7 from rfl, show (8 : Int) - ((0 : Nat) : Int) = 8 from rfl, r2, r3, r4, r5, r6, r7, r8]
  have hAB : E = true → A = B := fun h => by rw [h] at hE; rw [← hA, ← hB, eq_of_beq hE]
  clear hA hB hE hE2 r2 r3 r4 r5 r6 r7 r8 k1 k2 k3
  cases A <;> cases B <;> cases E <;> (rcases hp with rfl | rfl) <;> first | rfl | exact absurd (hAB rfl) (by decide)

end Go.Proofs.Ytifhnidcodhoeaa
