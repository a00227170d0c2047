/- DigitNums: for every input the law answers true. -/
import Derived.Test.YtimajdbgeibalaaEyeNum
import Derived.Test.YtimajdbgeibalaaRaws
namespace Go.Proofs.Ytimajdbgeibalaa
open Go.RowKit
set_option linter.unusedVariables false

/-- The law's own num: a number from 0 on. -/
def numL (n : Int) : Nat := ((n % 18446744073709551616) / 2).toNat
theorem numL_lt (n : Int) : numL n < 9223372036854775808 := by unfold numL; omega
theorem numL_eq (n : Int) : wrap64 (IntKind.u64.wrap n / 2) = (numL n : Int) := by
  have e : IntKind.u64.wrap n = n % 18446744073709551616 := by simp [IntKind.wrap, IntKind.bits, IntKind.signed]
  have h0 : 0 ≤ n % 18446744073709551616 := by omega
  have h1 : n % 18446744073709551616 < 18446744073709551616 := by omega
  rw [e, IntWalk.wrap64_in _ ⟨by omega, by omega⟩]
  unfold numL; omega

theorem num_any (n : Int) (w : World) : Calls Try.prog 10 #[.int .i64 n] w fun e w' => e = .returned (.int .i64 (numL n : Int)) ∧ w = w' := by
  go_enter Try.func10, Try.ntmps10
  go_wp2
  go_ret
  refine ⟨?_, rfl⟩
  show Ending.returned (.int .i64 (wrap64 (IntKind.u64.wrap n / 2))) = _
  rw [numL_eq]

/-- The bytes of the first k numbers. -/
def bytesOf (zs : List Int) : List Int := zs.flatMap fun z => numB (numL z)
theorem bytesOf_snoc (zs : List Int) (z : Int) : bytesOf (zs ++ [z]) = bytesOf zs ++ numB (numL z) := by simp [bytesOf]
theorem bytesOf_len (zs : List Int) : (bytesOf zs).length ≤ 9 * zs.length := by
  induction zs with
  | nil => simp [bytesOf]
  | cons z zs ih =>
    have h := numB_len 8 (numL z) (by have := numL_lt z; omega)
    have e : bytesOf (z :: zs) = numB (numL z) ++ bytesOf zs := rfl
    rw [e]; simp; omega

/-- The state of the first loop: a pen at B and the bytes beside it hold the same. -/
structure Both (w0 wr : World) (B : Nat) (vp vw : Value) (ys : List Int) : Prop where
  pen : PenIs wr (B + 1) B vp ys
  own : wr.ownsRow (B + 1) 5 1 vw ys.length (ys.map (Value.int .u8))
  apart : ∀ g, vw.ownBlock = some g → vp.ownBlock ≠ some g
  turn : Turn (fun _ => False) w0 wr
  new : w0.heap.size ≤ B

theorem both_pen {w0 wr w2 : World} {B : Nat} {vp vw vp' : Value} {ys zs : List Int} (h : Both w0 wr B vp vw ys) (hp : PenIs w2 (B + 1) B vp' (ys ++ zs)) (hf : Fresh wr vp vp')
    (ht : Turn (fun k => k = B ∨ vp.ownBlock = some k) wr w2) :
    w2.ownsRow (B + 1) 5 1 vw ys.length (ys.map (Value.int .u8)) ∧ (∀ g, vw.ownBlock = some g → vp'.ownBlock ≠ some g) ∧ Turn (fun _ => False) w0 w2 := by
  refine ⟨ht.owns h.own ?_, ?_, h.turn.trans ht ?_⟩
  · rintro k hk (rfl | e)
    · have := (h.own.lt _ hk).1; omega
    · exact h.apart k hk e
  · intro g hg e
    have hlt := (h.own.lt g hg).2
    exact h.apart g hg (hf.old e hlt)
  · rintro k hk (rfl | e)
    · have := h.new; omega
    · have := (h.pen.own.lt k e).1; have := h.new; omega

theorem both_want {w0 w2 w3 w4 : World} {B : Nat} {vp vw vw' : Value} {ys zs : List Int} (hp : PenIs w2 (B + 1) B vp (ys ++ zs)) (ho : w2.ownsRow (B + 1) 5 1 vw ys.length (ys.map (Value.int .u8)))
    (ha : ∀ g, vw.ownBlock = some g → vp.ownBlock ≠ some g) (ht : Turn (fun _ => False) w0 w2) (hn : w0.heap.size ≤ B) (t3 : Turn (fun _ => False) w2 w3)
    (ho' : w4.ownsRow (B + 1) 5 1 vw' (ys.length + zs.length) (ys.map (Value.int .u8) ++ zs.map (Value.int .u8))) (hg : w3.grownBy w4 vw.ownBlock) (hf : Fresh w3 vw vw') :
    Both w0 w4 B vp vw' (ys ++ zs) := by
  have t4 : Turn (fun k => vw.ownBlock = some k) w3 w4 := (Turn.refl _ w3).grown hg (fun k h _ => h)
  have p3 := hp.turn t3 id (fun _ _ => id)
  have p4 := p3.turn t4 (fun e => by have := (ho.lt _ e).1; omega) (fun k hk e => ha k e hk)
  refine ⟨p4, by simpa using ho', ?_, (ht.trans t3 (fun _ _ => id)).trans t4 ?_, hn⟩
  · intro g hg' e
    have hlt := (p3.own.lt g e).2
    exact ha g (hf.old hg' hlt) e
  · intro k hk e
    have := (ho.lt k e).1; omega

end Go.Proofs.Ytimajdbgeibalaa
