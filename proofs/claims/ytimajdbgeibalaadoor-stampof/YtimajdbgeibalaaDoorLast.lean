/- Own contracts: what is stirred in last, and a sum's bytes. No statement is proved here. -/
import Derived.Test.YtimajdbgeibalaaDoorAll
namespace Go.Proofs.YtimajdbgeibalaaDoor
open Go.RowKit
set_option linter.unusedVariables false
set_option linter.unusedSimpArgs false

/-- Noughts till 56 of 64. -/
def pads (n : Nat) : Nat := (119 - n % 64) % 64
/-- The eight bytes of how many bits there are. -/
def lenB (n : Nat) (k : Nat) : List Int := (List.range k).map fun i => (n : Int) * 8 / 2 ^ (56 - 8 * i) % 256
theorem lenB_succ (n : Nat) (k : Nat) : lenB n (k + 1) = lenB n k ++ [(n : Int) * 8 / 2 ^ (56 - 8 * k) % 256] := by
  simp [lenB, List.range_succ]

theorem own_slice {w : World} {base : Nat} {v : Value} {n : Nat} {xs : List Value} (h : w.ownsRow base 5 1 v n xs) : ∃ a c, v = .slice a n c := by
  rcases h.2 with ⟨rfl, rfl⟩ | ⟨g, cap', _, rfl, _⟩
  · exact ⟨_, _, rfl⟩
  · exact ⟨_, _, rfl⟩

set_option maxHeartbeats 800000 in
set_option maxRecDepth 100000 in
theorem last_any (v : Value) (xs : List Int) (n : Nat) (w : World) (hl : xs.length ≤ 60000000000000) (hn : n ≤ 70000000000000) (hr : Src w v xs) :
    Calls Tryd.prog 17 #[v, .int .i64 (n : Int)] w (NewBytes w (xs ++ [128] ++ List.replicate (pads xs.length) 0 ++ lenB n 8)) := by
  obtain ⟨i0, hi, hz0, hz1, hz2⟩ := info_parts Tryd.info5
  go_enter Tryd.func17, Tryd.ntmps17
  go_wp2_with fail
  refine (clone_any v xs _ (by omega) hr).mono ?_
  rintro e w1 ⟨v1, rfl, ho1, t1⟩
  have hs1 := t1.size
  go_wp2_with (at_builtin; refine wpList_append_where _ rfl (.tmp 9) (.tmp 10) 22 rfl w.heap.size 5 i0 (.int .u8 0) 1 1 Tryd.underlying22 hi hz0 hz1 hz2 rfl (by decide) v1 xs.length (xs.map (Value.int .u8)) rfl (ho1.alloc _) ⟨w1.heap.size, 0, none⟩ 1 1 [.int .u8 128] rfl rfl (one_cell _ _) ?c2 ?c3 ?c4 ?c5 ?_)
  case c2 => intro u hu; simp at hu; subst hu; rfl
  case c3 => unfold maxLen; omega
  case c4 => omega
  case c5 => simp; omega
  intro v2 w2 ho2 hg2 _ _
  have t2 := (t1.alloc (.cells #[.int .u8 128] 5)).grown hg2 (fun k h hk => by have := (ho1.lt k h).1; omega)
  have ho2' : w2.ownsRow w.heap.size 5 1 v2 (xs ++ [128]).length ((xs ++ [128]).map (Value.int .u8)) := by simpa using ho2
  clear ho1 ho2 hg2 t1 hs1
  go_wp2_with fail
  go_loopw [5] (fun pv wr => ∃ (m l c : Nat) (a : Option Addr), m ≤ pads xs.length ∧ pv = .slice a l c ∧ l = xs.length + 1 + m ∧ wr.ownsRow w.heap.size 5 1 pv (xs ++ [128] ++ List.replicate m 0).length ((xs ++ [128] ++ List.replicate m 0).map (Value.int .u8)) ∧ Turn (fun _ => False) w wr) (fun pv _ => xs.length + 1 + pads xs.length - sliceLen pv)
  case atStart =>
    obtain ⟨a2, c2, hv2⟩ := own_slice ho2'
    exact ⟨0, _, _, _, by omega, hv2, by simp, by simpa using ho2', t2⟩
  case round =>
    clear ho2' t2
    obtain ⟨m, l, c, a, hm, rfl, hll, ho, hT⟩ := hrel
    have hp64 : pads xs.length = (119 - xs.length % 64) % 64 := rfl
    have HLL := Lib.hid hll
    have HP := Lib.hid hp64
    have hpl : pads xs.length < 64 := by omega
    have hsz := hT.size
    have hL : (xs ++ [128] ++ List.replicate m 0).length = l := by simp; omega
    rw [hL] at ho
    have HL := Lib.hid hL
    by_cases hlt : m < pads xs.length
    · have hne : ((l : Int) % 64 != 56) = true := by rw [bne_iff_ne]; omega
      have hl2 : l ≤ 60000000000100 := by omega
      clear hll hp64 hL
      go_wp2_with (at_builtin; refine wpList_append_where _ rfl (.tmp 16) (.tmp 17) 22 rfl w.heap.size 5 i0 (.int .u8 0) 1 1 Tryd.underlying22 hi hz0 hz1 hz2 rfl (by decide) _ l ((xs ++ [128] ++ List.replicate m 0).map (Value.int .u8)) rfl (ho.alloc _) ⟨wr.heap.size, 0, none⟩ 1 1 [.int .u8 0] rfl rfl (one_cell _ _) ?d2 ?d3 ?d4 ?d5 ?_)
      case d2 => intro u hu; simp at hu; subst hu; rfl
      case d3 => unfold maxLen; omega
      case d4 => omega
      case d5 => simp; omega
      intro v3 w3 ho3 hg3 _ _
      have t3 := (hT.alloc (.cells #[.int .u8 0] 5)).grown hg3 (fun k h hk => by have := (ho.lt k h).1; omega)
      obtain ⟨a3, c3, hv3⟩ := own_slice ho3
      subst hv3
      have HO3 := Lib.hid ho3
      clear ho hg3 ho3
      go_wp2
      go_roundw
      case rel =>
        refine ⟨m + 1, l + 1, c3, a3, by omega, rfl, by have := HLL.out; omega, ?_, t3⟩
        have e1 : (xs ++ [128] ++ List.replicate (m + 1) 0).length = l + 1 := by have := HL.out; simp only [List.length_append, List.length_replicate, List.length_cons, List.length_nil] at this ⊢; omega
        rw [e1, List.replicate_succ']; simpa using HO3.out
      case measure => have := HLL.out; simp [sliceLen]; omega
    · obtain rfl : m = pads xs.length := by omega
      have hne : ((l : Int) % 64 != 56) = false := by rw [bne_eq_false_iff_eq]; omega
      clear hll hp64 hL
      obtain ⟨ys, hys⟩ : ∃ ys, xs ++ [128] ++ List.replicate (pads xs.length) 0 = ys := ⟨_, rfl⟩
      rw [hys] at ho
      have hyl : ys.length = l := by rw [← hys]; exact HL.out
      have HY := Lib.hid hys
      have HYL := Lib.hid hyl
      have hl3 : l ≤ 60000000000100 := by have := HLL.out; omega
      clear hys hyl
      go_wp2_with fail
      go_loopw [5, 7] (fun pv sv wr => ∃ (k l' c : Nat) (a : Option Addr), k ≤ 8 ∧ sv = .int .i64 (56 - 8 * (k : Int)) ∧ pv = .slice a l' c ∧ l' = l + k ∧ wr.ownsRow w.heap.size 5 1 pv l' ((ys ++ lenB n k).map (Value.int .u8)) ∧ Turn (fun _ => False) w wr) (fun _ sv _ => (intOf sv + 8).toNat)
      case atStart => exact ⟨0, l, c, a, by omega, rfl, rfl, rfl, by simpa [lenB] using ho, hT⟩
      case round =>
        clear ho hT hsz
        obtain ⟨k, l', c, a, hk, rfl, rfl, hl', ho, hT⟩ := hrel
        have hsz := hT.size
        have HL' := Lib.hid hl'
        have hlb : l' ≤ 60000000000200 := by omega
        clear hl'
        by_cases hlt : k < 8
        · have hge : decide ((0 : Int) ≤ 56 - 8 * (k : Int)) = true := by simp; omega
          have hge2 : (0 : Int) ≤ 56 - 8 * (k : Int) := by omega
          go_wp2_with (at_builtin; refine wpList_append_where _ rfl (.tmp 26) (.tmp 31) 22 rfl w.heap.size 5 i0 (.int .u8 0) 1 1 Tryd.underlying22 hi hz0 hz1 hz2 rfl (by decide) _ l' ((ys ++ lenB n k).map (Value.int .u8)) rfl (ho.alloc _) ⟨wr.heap.size, 0, none⟩ 1 1 [.int .u8 ((n : Int) * 8 / 2 ^ (56 - 8 * k) % 256)] rfl rfl (one_cell _ _) ?e2 ?e3 ?e4 ?e5 ?_)
          case e2 => intro u hu; simp at hu; subst hu; rfl
          case e3 => unfold maxLen; omega
          case e4 => omega
          case e5 => simp; omega
          intro v3 w3 ho3 hg3 _ _
          have t3 := (hT.alloc (.cells #[.int .u8 ((n : Int) * 8 / 2 ^ (56 - 8 * k) % 256)] 5)).grown hg3 (fun k h hk => by have := (ho.lt k h).1; omega)
          obtain ⟨a3, c3, hv3⟩ := own_slice ho3
          subst hv3
          have HO3 := Lib.hid ho3
          clear ho hg3 ho3
          go_wp2
          go_roundw
          case rel =>
            refine ⟨k + 1, l' + 1, c3, a3, by omega, by go_num, rfl, by have := HL'.out; omega, ?_, t3⟩
            rw [lenB_succ]; simpa using HO3.out
          case measure => simp [intOf]; omega
        · obtain rfl : k = 8 := by omega
          go_wp2_with fail
          go_ret
          refine ⟨_, rfl, ?_, hT⟩
          have e1 : (xs ++ [128] ++ List.replicate (pads xs.length) 0 ++ lenB n 8).length = l' := by rw [HY.out, List.length_append, HYL.out, HL'.out]; rfl
          rw [e1, HY.out]; exact ho
end Go.Proofs.YtimajdbgeibalaaDoor
