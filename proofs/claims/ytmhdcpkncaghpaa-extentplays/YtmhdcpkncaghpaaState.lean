/- Own: loops of ExtentPlays. No statement is proved here. -/
import Derived.Test.YtmhdcpkncaghpaaPlayA
import Derived.Test.YtmhdcpkncaghpaaPlayC
import Derived.Test.YtmhdcpkncaghpaaPlayD
import Derived.Test.YtmhdcpkncaghpaaPlayE
import Derived.Test.YtmhdcpkncaghpaaPlayF
import Derived.Test.YtmhdcpkncaghpaaActs
import Derived.Test.YtmhdcpkncaghpaaFills
namespace Go.Proofs.Ytmhdcpkncaghpaa
open Go.RowKit
set_option linter.unusedVariables false
set_option linter.unusedSimpArgs false

/-- The map and the list of truths beside it. -/
structure PSt (w1 wr : World) (D k UB : Nat) (us : List Bool) (U : Nat → Bool) (F : Nat → Prop) : Prop where
  map : MapU wr F D k U
  new : ∀ q, F q → w1.heap.size ≤ q
  turn : Turn (fun _ => False) w1 wr
  row : TrueIn wr UB us
  len : us.length = k
  nUB : ¬ F UB
  hUB : w1.heap.size ≤ UB
theorem PSt.calm {w1 wr w' : World} {D k UB : Nat} {us : List Bool} {U : Nat → Bool} {F : Nat → Prop} (h : PSt w1 wr D k UB us U F) (T : Turn (fun _ => False) wr w') : PSt w1 w' D k UB us U F :=
  ⟨h.map.none T, h.new, h.turn.trans T (fun _ _ => id), h.row.turn T id, h.len, h.nUB, h.hUB⟩
theorem PSt.grow {w1 wr w' : World} {D k UB : Nat} {us : List Bool} {U V : Nat → Bool} {F F' : Nat → Prop} (h : PSt w1 wr D k UB us U F) (g : Grow wr F w' F') (m : MapU w' F' D k V) : PSt w1 w' D k UB us V F' := by
  refine ⟨m, fun q hq => ?_, h.turn.trans g.1 (fun q hq hF => by have := h.new q hF; omega), h.row.turn g.1 h.nUB, h.len, fun hF => h.nUB (g.2 UB h.row.lt hF), h.hUB⟩
  by_cases hw : q < wr.heap.size
  · exact h.new q (g.2 q hw hq)
  · have := h.turn.size; omega
theorem PSt.put {w1 wr w' : World} {D k UB : Nat} {us us' : List Bool} {U : Nat → Bool} {F : Nat → Prop} (h : PSt w1 wr D k UB us U F) (r : TrueIn w' UB us') (T : Turn (fun q => q = UB) wr w') (hl : us'.length = us.length) : PSt w1 w' D k UB us' U F :=
  ⟨h.map.turn T (fun q hF e => h.nUB (by rw [← e]; exact hF)), h.new, h.turn.trans T (fun q hq e => by have := h.hUB; omega), r, by rw [hl]; exact h.len, h.nUB, h.hUB⟩
theorem PSt.ext {w1 wr : World} {D k UB : Nat} {us : List Bool} {U V : Nat → Bool} {F : Nat → Prop} (h : PSt w1 wr D k UB us U F) (e : ∀ p, U p = V p) : PSt w1 wr D k UB us V F := { h with map := h.map.ext e }
theorem free_iff {us : List Bool} {k : Nat} {m q : Nat} (hm : 1 ≤ m) : FreeI us k (m : Int) q ↔ FreeAt (fun p => us.getD p false) k m q := by
  unfold FreeI FreeAt
  rw [Int.toNat_natCast, allNe_iff]
  constructor
  · rintro ⟨h1, h2, h3⟩
    exact ⟨by omega, fun j hj => h3 (q + j) (by omega) (by omega)⟩
  · rintro ⟨h1, h2⟩
    refine ⟨by omega, by omega, fun p p1 p2 => ?_⟩
    have := h2 (p - q) (by omega)
    rwa [show q + (p - q) = p by omega] at this
theorem least_of {us : List Bool} {k m : Nat} (hm : 1 ≤ m) {o : Option Nat} (h : LeastF us k (m : Int) 0 o) : Least (fun p => us.getD p false) k m o := by
  cases o with
  | none => exact fun p hf => h p (Nat.zero_le _) ((free_iff hm).2 hf)
  | some q => exact ⟨(free_iff hm).1 h.2.1, fun p hp hf => h.2.2 p (Nat.zero_le _) hp ((free_iff hm).2 hf)⟩
theorem find_o {w1 wr : World} {D k UB : Nat} {us : List Bool} {F : Nat → Prop} (h : PSt w1 wr D k UB us (fun p => us.getD p false) F) (hk : k ≤ 1000) (M : Int) (hM : -9223372036854775808 ≤ M ∧ M < 9223372036854775808) {o : Option Nat} (ho : LeastF us k M 0 o) :
    Calls Try.prog 10 #[.pointer (some ⟨D, 0, none⟩), .int .i64 M] wr (None wr (.int .i64 (optI o))) := by
  by_cases h1 : 1 ≤ M
  · obtain ⟨m, rfl⟩ := Int.eq_ofNat_of_zero_le (show 0 ≤ M by omega)
    exact find_h wr F D k _ h.map (by omega) m (by omega) (by omega) o (least_of (by omega) ho)
  · have e : o = none := by
      cases o with
      | none => rfl
      | some q => exact absurd ho.2.1.1 h1
    subst e
    exact find_low wr D M (by omega) hM.1
theorem setR_true {us : List Bool} {a n : Nat} (h : a + n ≤ us.length) (p : Nat) : (us.getD p false || inR (a, a + n) p) = (setR us true a n).getD p false := by
  rw [setR_get us true a n h p]
  unfold inR
  by_cases c : a ≤ p ∧ p < a + n
  · rw [if_pos c, decide_eq_true c]; simp
  · rw [if_neg c, decide_eq_false c]; simp
theorem setR_false {us : List Bool} {a n : Nat} (h : a + n ≤ us.length) (p : Nat) : (us.getD p false && !inR (a, a + n) p) = (setR us false a n).getD p false := by
  rw [setR_get us false a n h p]
  unfold inR
  by_cases c : a ≤ p ∧ p < a + n
  · rw [if_pos c, decide_eq_true c]; simp
  · rw [if_neg c, decide_eq_false c]; simp
end Go.Proofs.Ytmhdcpkncaghpaa
