/- Own contracts: rule 5. No statement is proved here. -/
import Derived.Test.YtifhnidcodhoeaaBra0
namespace Go.Proofs.Ytifhnidcodhoeaa
set_option maxRecDepth 100000
open Go.RowKit
set_option linter.unusedVariables false
set_option linter.unusedSimpArgs false


def ringB (l : List El) (id : Int) : Nat → Int → Bool
  | 0, _ => false
  | m + 1, a => if a = id then true else match atE l a with
    | none => false
    | some y => ringB l id m y.par
def b5 (l : List El) (x : El) : Bool := ringB l x.id l.length x.par
theorem ring_hit {l : List El} {id : Int} {m : Nat} {a : Int} (hm : 0 < m) (h : a = id) : ringB l id m a = true := by
  cases m with
  | zero => omega
  | succ m => rw [ringB, if_pos h]
theorem ring_end {l : List El} {id : Int} {m : Nat} {a : Int} (h : ¬ a = id) (hn : atE l a = none) : ringB l id m a = false := by
  cases m with
  | zero => rfl
  | succ m => rw [ringB, if_neg h, hn]
theorem ring_on {l : List El} {id : Int} {m : Nat} {a : Int} {y : El} (h : ¬ a = id) (hn : atE l a = some y) : ringB l id (m + 1) a = ringB l id m y.par := by
  rw [ringB, if_neg h, hn]
set_option maxHeartbeats 4000000 in
theorem breaks_5 (w : World) (v : Value) (l : List El) (x : El) (hv : RowV w v l) (hb : l.length ≤ 1000) : Calls Try.prog 18 #[v, .agg x.vals.toArray, .int .i64 5] w fun r w' => r = .returned (.bool (b5 l x)) ∧ Turn (fun _ => False) w w' := by
  obtain ⟨la, lc, rfl⟩ := hv.form
  obtain ⟨n, hn⟩ : ∃ n, l.length = n := ⟨_, rfl⟩
  rw [hn] at hv hb
  simp only [hn]
  have HN := Lib.hid hn
  clear hn
  have hbx := box_alloc w 35 x.vals
  obtain ⟨X, hX⟩ : ∃ X, w.heap.size = X := ⟨_, rfl⟩
  obtain ⟨w1, hw1⟩ : ∃ w1, w.alloc (.cells x.vals.toArray 35) = w1 := ⟨_, rfl⟩
  rw [hw1] at hbx
  have hr := hbx.range
  rw [hX] at hr
  have T1 := Lib.hid hbx.turn
  have HR := Lib.hid hr
  have HV1 := Lib.hid (hv.turn hbx.turn (fun _ _ => id))
  clear hbx hr hv
  obtain ⟨c0, c1, c2, c3, c4, c5, c6, c7, c8, c9⟩ := cellsE HR.out
  simp only [Nat.zero_add] at c0 c2
  clear c1 c3 c4 c5 c6 c7 c8 c9
  go_enter Try.func18, Try.ntmps18
  go_wp2_with fail
  go_loop [10, 11] (fun av iv => ∃ (k : Nat) (a : Int), k ≤ n ∧ iv = .int .i64 (k : Int) ∧ av = .int .i64 a ∧ b5 l x = ringB l x.id (n - k) a) (fun _ iv => n - (intOf iv).toNat)
  case atStart => exact ⟨0, x.par, Nat.zero_le _, rfl, rfl, by rw [b5, HN.out]; rfl⟩
  case round =>
    obtain ⟨k, a, hk, rfl, rfl, hring⟩ := hrel
    by_cases hlt : k < n
    · have dk : decide ((k : Int) < (n : Int)) = true := decide_eq_true (by omega)
      by_cases ha : a = x.id
      · have d1 : (a == x.id) = true := by simpa using ha
        have HP := Lib.hid (hring.trans (ring_hit (by omega) ha))
        clear hring ha
        go_wp2_with fail
        go_ret
        exact ⟨by rw [HP.out]; rfl, T1.out⟩
      · have d1 : (a == x.id) = false := by simpa using ha
        have HA := Lib.hid ha
        have HG := Lib.hid hring
        clear hring ha
        go_wp2_with fail
        refine (rfind_any w1 _ l a HV1.out (by rw [HN.out]; exact hb)).mono ?_
        rintro r w' ⟨⟨q, hq, hid, hne, rfl⟩ | ⟨hne, rfl⟩, rfl⟩
        · have HE := Lib.hid (atE_some hq hid hne)
          rw [HN.out] at hq
          clear hid hne
          obtain ⟨b, o, rfl, hc, hs1⟩ := HV1.out.one HN.out q hq
          obtain ⟨y, hy⟩ : ∃ y, l.getD q el0 = y := ⟨_, rfl⟩
          rw [hy] at hs1
          have HY := Lib.hid hy
          have cc := (cellsE hs1).c2
          have gi : (0 : Int) ≤ (q : Int) ∧ (q : Int) < (n : Int) := by omega
          have dq : decide ((q : Int) < 0) = false := decide_eq_false (by omega)
          clear hs1 hy
          go_wp2_with fail
          go_round
          case rel => exact ⟨k + 1, y.par, by omega, by go_num, rfl, by
            have h1 := HE.out
            rw [HY.out] at h1
            rw [HG.out, show n - k = (n - (k + 1)) + 1 from by omega, ring_on HA.out h1]⟩
          case measure => simp [intOf]; omega
        · have HE := Lib.hid (ring_end (id := x.id) (m := n - k) HA.out (atE_none hne))
          clear hne
          go_wp2_with fail
          go_ret
          exact ⟨by rw [HG.out, HE.out]; rfl, T1.out⟩
    · have dk : decide ((k : Int) < (n : Int)) = false := decide_eq_false (by omega)
      have HG := Lib.hid (show b5 l x = false from by rw [hring, show n - k = 0 from by omega]; rfl)
      clear hring
      go_wp2_with fail
      go_ret
      exact ⟨by rw [HG.out]; rfl, T1.out⟩
end Go.Proofs.Ytifhnidcodhoeaa
