/- DigitCuts: for every input the law answers true. -/
import Derived.Test.YtimajdbgeibalaaNil
import Derived.Test.YtimajdbgeibalaaNumsWalk
namespace Go.Proofs.Ytimajdbgeibalaa
open Go.RowKit
set_option linter.unusedVariables false

theorem str_nil : (strOfNums []).toList = [] := by rw [toList_nums]; rfl

/-- What is left of cut bytes behind a number that is whole. -/
theorem cut_whole {d rest : List Int} {j : Nat} (h : d.length ≤ j) : (d ++ rest).take j = d ++ rest.take (j - d.length) := by
  rw [List.take_append, List.take_of_length_le h]
theorem cut_part {d rest : List Int} {j : Nat} (h : j < d.length) : (d ++ rest).take j = d.take j := by
  rw [List.take_append_of_le_length (by omega)]

set_option maxHeartbeats 1600000 in
set_option maxRecDepth 100000 in
theorem cuts_walk (b off cap : Nat) (xs : List Int) (c e : Int) (w : World) (hc0 : 0 ≤ c) (hc1 : c ≤ 255) (hl0 : 0 < xs.length) (hl : xs.length ≤ 12) (hc : ∀ i, i < xs.length → w.cell? ⟨b, off + i, none⟩ = some (.int .i64 (xs.getD i 0)))
    (he0 : -128 ≤ e) (he1 : e ≤ 127) :
    Calls Try.prog 5 #[.slice (some ⟨b, off, none⟩) xs.length cap, .int .u8 c, .int .i8 e] w (TrueNew w) := by
  obtain ⟨i0, hi, hz0, hz1, hz2⟩ := info_parts Try.info5
  have hd : decide ((12 : Int) < (xs.length : Int)) = false := by simp; omega
  have HS0 := Lib.hid str_nil
  have HC := Lib.hid hc
  clear hc
  obtain ⟨L, hL⟩ : ∃ L, xs.length = L := ⟨_, rfl⟩
  have HL := Lib.hid hL
  rw [hL] at hl hd hl0
  simp only [hL]
  clear hL
  go_enter Try.func5, Try.ntmps5
  go_wp2_with fail
  refine (awake_true _).mono ?_
  rintro r w1 ⟨rfl, t1⟩
  go_wp2_with fail
  go_loopw [7, 8] (fun vw i wr => ∃ (k : Nat), k ≤ L ∧ i = .int .i64 (k : Int) ∧ wr.ownsRow w1.heap.size 5 1 vw (bytesOf (xs.take k)).length ((bytesOf (xs.take k)).map (Value.int .u8)) ∧ Turn (fun _ => False) w wr ∧ w1.heap.size ≤ wr.heap.size) (fun _ i _ => L - (intOf i).toNat)
  case atStart => exact ⟨0, Nat.zero_le _, rfl, World.ownsRow_nil _ _ _ _, t1, Nat.le_refl _⟩
  case round =>
    obtain ⟨k, hk, rfl, HO, HT, hsz⟩ := hrel
    have hblen := bytesOf_len (xs.take k)
    have hbl : (bytesOf (xs.take k)).length ≤ 108 := by have : (xs.take k).length ≤ k := List.length_take_le _ _; omega
    clear hblen
    by_cases hlt : k < L
    · have hcl0 := HC.out k (by rw [HL.out]; exact hlt)
      have hbs : b < w.heap.size := World.block_lt_of_cell? w _ hcl0
      have hcl := (HT.cell (p := ⟨b, off + k, none⟩) hbs id).trans hcl0
      have HS := Lib.hid (take_snoc xs k (by rw [HL.out]; exact hlt))
      obtain ⟨z, hz⟩ : ∃ z, xs.getD k 0 = z := ⟨_, rfl⟩
      rw [hz] at hcl
      have HZ := Lib.hid hz
      have hzl := numL_lt z
      have hzn := numB_len 8 (numL z) (by omega)
      have hzp := numB_pos (numL z)
      clear hz hcl0
      go_wp2_with fail
      refine (num_any z _).mono ?_
      rintro r w' ⟨rfl, rfl⟩
      go_wp2_with fail
      refine (ref_num (numL z) _ hzl).mono ?_
      rintro r w3 ⟨v5, rfl, ho5, ht3⟩
      have ho3 := ht3.owns HO (fun _ _ => id)
      obtain ⟨g5, c5, hv5⟩ := own_form ho5 hzp
      subst hv5
      have hn5 := Lib.hid (ho5.cells (g := g5) rfl)
      have hsz3 : w1.heap.size ≤ w3.heap.size := by have := ht3.size; omega
      have hlow : ∀ j, Value.ownBlock _ = some j → w1.heap.size ≤ j := fun j h => (HO.lt j h).1
      have hw1 := t1.size
      have hT3 := HT.trans ht3 (fun _ _ => id)
      clear hcl
      go_wp2_with (at_builtin; refine wpList_append_where _ rfl (.tmp 29) (.tmp 35) 25 rfl w1.heap.size 5 i0 (.int .u8 0) 1 1 Try.underlying25 hi hz0 hz1 hz2 rfl (by decide) _ (bytesOf (xs.take k)).length ((bytesOf (xs.take k)).map (Value.int .u8)) rfl ho3 ⟨g5, 0, none⟩ (numB (numL z)).length c5 ((numB (numL z)).map (Value.int .u8)) rfl (by simp) hn5.out (ints_oneCell _ _) ?c3 ?c4 ?c5 ?_)
      case c3 => unfold maxLen; omega
      case c4 => omega
      case c5 => omega
      intro vw' w4 ho4 hg4 hf4 _
      have hT4 := hT3.grown hg4 (fun j hj hlt' => by have := hlow j hj; omega)
      have hsz4 : w1.heap.size ≤ w4.heap.size := by have := hg4.size; omega
      clear hg4 hf4 ho3 HO ho5 ht3 hlow
      go_wp2
      go_roundw
      case rel =>
        refine ⟨k + 1, by omega, by go_num, ?_, hT4, hsz4⟩
        rw [HS.out, HZ.out, bytesOf_snoc]; simpa using ho4
      case measure => simp [intOf]; omega
    · have hy : xs.take k = xs := List.take_of_length_le (by rw [HL.out]; omega)
      rw [hy] at HO hbl
      have hkk : k ≤ L := hk
      have hN0 : 0 < (bytesOf xs).length := by
        cases xs with
        | nil => have := HL.out; simp at this; omega
        | cons z zs => rw [bytesOf_cons]; simp; have := numB_pos (numL z); omega
      obtain ⟨g, cw, hv⟩ := own_form HO hN0
      subst hv
      have hcw : (bytesOf xs).length ≤ cw := by
        rcases HO.2 with ⟨h, _⟩ | ⟨_, _, _, h, _, _, hle, _⟩
        · cases h
        · cases h; exact hle
      have hRd := Reads.of_owns HO
      obtain ⟨N, hN⟩ : ∃ N, (bytesOf xs).length = N := ⟨_, rfl⟩
      have HN := Lib.hid hN
      rw [hN] at hbl hN0 hcw HO hRd
      simp only [hN]
      obtain ⟨K, hK⟩ : ∃ K : Nat, c % ((N : Int) + 1) = (K : Int) := ⟨(c % ((N : Int) + 1)).toNat, by have : 0 ≤ c % ((N : Int) + 1) := Int.emod_nonneg _ (by omega); omega⟩
      have hKN : K ≤ N := by have : c % ((N : Int) + 1) < (N : Int) + 1 := Int.emod_lt_of_pos _ (by omega); omega
      have hRK : Src wr (.slice (some ⟨g, 0, none⟩) K cw) ((bytesOf xs).take K) := by
        refine .inl ?_
        rcases hRd with ⟨h, _⟩ | ⟨g', o', cap', h, hc', hcell⟩
        · cases h
        · cases h
          have hln : ((bytesOf xs).take K).length = K := by rw [List.length_take, HN.out]; omega
          refine .inr ⟨_, _, _, by rw [hln], by omega, fun i hi => ?_⟩
          rw [hcell i (by rw [HN.out]; omega)]; simp [List.getD, show i < K by omega]
      clear hN hy HO hRd
      go_wp2_with fail
      simp only [hK]
      refine (neweye_any _ _ _ (by rw [List.length_take]; omega) hRK).mono ?_
      rintro r w7 ⟨X, v, rfl, hX, he, hv, hk7, t7⟩
      have hX0 : w.heap.size ≤ X := Nat.le_trans HT.size hX
      have hT7 := HT.trans t7 (fun _ _ => id)
      clear t7 hX HT hk7 hRK hK
      go_wp2_with fail
      go_loopw [11, 12] (fun at_ i wr => ∃ (k A : Nat) (v : Value), k ≤ L ∧ i = .int .i64 (k : Int) ∧ at_ = .int .i64 (A : Int) ∧ A ≤ K ∧ A + (bytesOf (xs.drop k)).length = N ∧ EyeIs wr X v 0 ∧ Reads wr v ((bytesOf (xs.drop k)).take (K - A)) ∧ Turn (fun _ => False) w wr) (fun _ i _ => L - (intOf i).toNat)
      case atStart => exact ⟨0, 0, v, Nat.zero_le _, rfl, rfl, Nat.zero_le _, by simpa using HN.out, he, hv, hT7⟩
      case round =>
        obtain ⟨k, A, v, hk, rfl, rfl, hA, hAN, he, hv, hT⟩ := hrel
        by_cases hlt : k < L
        · have hcl0 := HC.out k (by rw [HL.out]; exact hlt)
          have hbs : b < w.heap.size := World.block_lt_of_cell? w _ hcl0
          have HS := Lib.hid (drop_cons xs k (by rw [HL.out]; exact hlt))
          obtain ⟨z, hz⟩ : ∃ z, xs.getD k 0 = z := ⟨_, rfl⟩
          rw [hz] at hcl0
          have hzl := numL_lt z
          have hzn := numB_len 8 (numL z) (by omega)
          have hzp := numB_pos (numL z)
          have HR := hv
          rw [HS.out, hz, bytesOf_cons] at HR hAN
          have HA := Lib.hid hAN
          clear hz hv HS hAN
          by_cases hpart : K < A + (numB (numL z)).length
          · have hj : K - A < (numB (numL z)).length := by omega
            rw [cut_part hj] at HR
            have hln : ((numB (numL z)).take (K - A)).length ≤ 9 := by rw [List.length_take]; omega
            have hdg : ∀ i, i < ((numB (numL z)).take (K - A)).length → 0 ≤ ((numB (numL z)).take (K - A)).getD i 0 ∧ ((numB (numL z)).take (K - A)).getD i 0 < 128 := by
              intro i hi
              rw [List.length_take] at hi
              have h1 := numB_digit (numL z) i (by omega)
              have e1 : ((numB (numL z)).take (K - A)).getD i 0 = (numB (numL z)).getD i 0 := by simp [List.getD, show i < K - A by omega]
              rw [e1]; exact h1
            have HDG := Lib.hid hdg
            clear hdg
            go_wp2_with fail
            refine (eye_short X v _ _ _ he HR hln HDG.out).mono ?_
            rintro r w8 ⟨rfl, he8, t8⟩
            have hT8 : Turn (fun _ => False) w w8 := hT.trans t8 (fun j hj h => by omega)
            have hcl8 := (hT8.cell (p := ⟨b, off + k, none⟩) hbs id).trans hcl0
            clear t8 hT
            go_wp2_with fail
            refine (num_any z _).mono ?_
            rintro r w' ⟨rfl, rfl⟩
            go_wp2_with fail
            refine (ref_num (numL z) _ hzl).mono ?_
            rintro r w9 ⟨v5, rfl, ho5, t9⟩
            obtain ⟨g5, c5, hv5⟩ := own_form ho5 hzp
            subst hv5
            have he9 := he8.turn t9 id
            have hT9 := hT8.trans t9 (fun _ _ => id)
            clear ho5 t9 hcl8 hT8
            go_wp2_with fail
            refine (fail_again X _ 6 8 _ he9 (by omega) (by omega)).mono ?_
            rintro r w' ⟨rfl, rfl⟩
            go_wp2_with fail
            refine (fault_any X _ 6 _ he9).mono ?_
            rintro r w' ⟨rfl, rfl⟩
            go_wp2_with fail
            refine (end_any X none 0 0 6 _ he9 rfl).mono ?_
            rintro r w' ⟨rfl, rfl⟩
            go_wp2_with fail
            go_ret
            exact ⟨rfl, hT9⟩
          · have hj : (numB (numL z)).length ≤ K - A := by omega
            rw [cut_whole hj] at HR
            have hRl : (numB (numL z) ++ (bytesOf (xs.drop (k + 1))).take (K - A - (numB (numL z)).length)).length ≤ 70000000000000 := by
              simp only [List.length_append, List.length_take]; omega
            go_wp2_with fail
            refine (eye_ok X v (numL z) _ _ _ he HR hzl hRl (.inl (by omega))).mono ?_
            rintro r w8 ⟨v8, rfl, he8, hr8, t8, _⟩
            have hT8 : Turn (fun _ => False) w w8 := hT.trans t8 (fun j hj h => by omega)
            have hcl8 := (hT8.cell (p := ⟨b, off + k, none⟩) hbs id).trans hcl0
            clear t8 hT
            go_wp2_with fail
            refine (num_any z _).mono ?_
            rintro r w' ⟨rfl, rfl⟩
            go_wp2_with fail
            refine (ref_num (numL z) _ hzl).mono ?_
            rintro r w9 ⟨v5, rfl, ho5, t9⟩
            obtain ⟨g5, c5, hv5⟩ := own_form ho5 hzp
            subst hv5
            have he9 := he8.turn t9 id
            have hr9 := hr8.turn t9 (fun _ _ => id)
            have hT9 := hT8.trans t9 (fun _ _ => id)
            clear ho5 t9 hcl8 hT8 hr8 he8
            go_wp2_with fail
            go_roundw
            case rel =>
              refine ⟨k + 1, A + (numB (numL z)).length, v8, by omega, by go_num, by go_num, by omega, ?_, he9, ?_, hT9⟩
              · have := HA.out; simp only [List.length_append] at this; omega
              · rw [show K - (A + (numB (numL z)).length) = K - A - (numB (numL z)).length by omega]; exact hr9
            case measure => simp [intOf]; omega
        · clear hv HC
          by_cases he0 : e = 0
          · subst he0
            go_wp2_with fail
            refine (fail_zero X _).mono ?_
            rintro r w' ⟨rfl, rfl⟩
            go_wp2_with fail
            refine (fail_nil _).mono ?_
            rintro r w' ⟨rfl, rfl⟩
            go_wp2_with fail
            refine (fault_any X _ 0 _ he).mono ?_
            rintro r w' ⟨rfl, rfl⟩
            go_wp2_with fail
            refine (fault_nil _).mono ?_
            rintro r w' ⟨rfl, rfl⟩
            go_wp2_with fail
            refine (end_nil _).mono ?_
            rintro r w' ⟨rfl, rfl⟩
            go_wp2_with fail
            refine (num_nil 5 _).mono ?_
            rintro r w' ⟨rfl, rfl⟩
            go_wp2_with fail
            refine (text_nil _).mono ?_
            rintro r w' ⟨rfl, rfl⟩
            go_wp2_with fail
            refine (raw_nil _).mono ?_
            rintro r w' ⟨rfl, rfl⟩
            go_wp2_with fail
            refine (left_nil _).mono ?_
            rintro r w' ⟨rfl, rfl⟩
            go_wp2_with fail
            go_ret
            exact ⟨rfl, hT⟩
          · have hne : e ≠ 0 := he0
            have hee : (e == e) = true := by simp
            go_wp2_with fail
            refine (fail_first X _ e _ he hne).mono ?_
            rintro r w9 ⟨rfl, he9, t9⟩
            have hT9 : Turn (fun _ => False) w w9 := hT.trans t9 (fun j hj h => by omega)
            clear t9 hT he
            go_wp2_with fail
            refine (fail_nil _).mono ?_
            rintro r w' ⟨rfl, rfl⟩
            go_wp2_with fail
            refine (fault_any X _ e _ he9).mono ?_
            rintro r w' ⟨rfl, rfl⟩
            go_wp2_with fail
            refine (fault_nil _).mono ?_
            rintro r w' ⟨rfl, rfl⟩
            go_wp2_with fail
            refine (end_nil _).mono ?_
            rintro r w' ⟨rfl, rfl⟩
            go_wp2_with fail
            refine (num_nil 5 _).mono ?_
            rintro r w' ⟨rfl, rfl⟩
            go_wp2_with fail
            refine (text_nil _).mono ?_
            rintro r w' ⟨rfl, rfl⟩
            go_wp2_with fail
            refine (raw_nil _).mono ?_
            rintro r w' ⟨rfl, rfl⟩
            go_wp2_with fail
            refine (left_nil _).mono ?_
            rintro r w' ⟨rfl, rfl⟩
            go_wp2_with fail
            go_ret
            exact ⟨rfl, hT9⟩


set_option maxHeartbeats 1600000 in
set_option maxRecDepth 100000 in
theorem cuts_none (a : Option Addr) (cap : Nat) (c e : Int) (w : World) (hc0 : 0 ≤ c) (hc1 : c ≤ 255) (he0 : -128 ≤ e) (he1 : e ≤ 127) :
    Calls Try.prog 5 #[.slice a 0 cap, .int .u8 c, .int .i8 e] w (TrueNew w) := by
  have HS0 := Lib.hid str_nil
  have hK : c % 1 = 0 := Int.emod_one c
  go_enter Try.func5, Try.ntmps5
  go_wp2_with fail
  refine (awake_true _).mono ?_
  rintro r w1 ⟨rfl, t1⟩
  go_wp2_with fail
  refine wp_loop_rounds 1 ?_
  rw [rounds_succ]
  go_wp2_with fail
  refine (neweye_any _ [] _ (by simp) (.inl (.inl ⟨rfl, rfl⟩))).mono ?_
  rintro r w7 ⟨X, v, rfl, hX, he, hv, hk7, t7⟩
  have hX0 : w.heap.size ≤ X := Nat.le_trans t1.size hX
  have hT := t1.trans t7 (fun _ _ => id)
  clear t7 hX hk7 t1 hv hK
  go_wp2_with fail
  refine wp_loop_rounds 1 ?_
  rw [rounds_succ]
  by_cases he0 : e = 0
  · subst he0
    go_wp2_with fail
    refine (fail_zero X _).mono ?_
    rintro r w' ⟨rfl, rfl⟩
    go_wp2_with fail
    refine (fail_nil _).mono ?_
    rintro r w' ⟨rfl, rfl⟩
    go_wp2_with fail
    refine (fault_any X _ 0 _ he).mono ?_
    rintro r w' ⟨rfl, rfl⟩
    go_wp2_with fail
    refine (fault_nil _).mono ?_
    rintro r w' ⟨rfl, rfl⟩
    go_wp2_with fail
    refine (end_nil _).mono ?_
    rintro r w' ⟨rfl, rfl⟩
    go_wp2_with fail
    refine (num_nil 5 _).mono ?_
    rintro r w' ⟨rfl, rfl⟩
    go_wp2_with fail
    refine (text_nil _).mono ?_
    rintro r w' ⟨rfl, rfl⟩
    go_wp2_with fail
    refine (raw_nil _).mono ?_
    rintro r w' ⟨rfl, rfl⟩
    go_wp2_with fail
    refine (left_nil _).mono ?_
    rintro r w' ⟨rfl, rfl⟩
    go_wp2_with fail
    go_ret
    exact ⟨rfl, hT⟩
  · have hne : e ≠ 0 := he0
    have hee : (e == e) = true := by simp
    go_wp2_with fail
    refine (fail_first X _ e _ he hne).mono ?_
    rintro r w9 ⟨rfl, he9, t9⟩
    have hT9 : Turn (fun _ => False) w w9 := hT.trans t9 (fun j hj h => by omega)
    clear t9 hT he
    go_wp2_with fail
    refine (fail_nil _).mono ?_
    rintro r w' ⟨rfl, rfl⟩
    go_wp2_with fail
    refine (fault_any X _ e _ he9).mono ?_
    rintro r w' ⟨rfl, rfl⟩
    go_wp2_with fail
    refine (fault_nil _).mono ?_
    rintro r w' ⟨rfl, rfl⟩
    go_wp2_with fail
    refine (end_nil _).mono ?_
    rintro r w' ⟨rfl, rfl⟩
    go_wp2_with fail
    refine (num_nil 5 _).mono ?_
    rintro r w' ⟨rfl, rfl⟩
    go_wp2_with fail
    refine (text_nil _).mono ?_
    rintro r w' ⟨rfl, rfl⟩
    go_wp2_with fail
    refine (raw_nil _).mono ?_
    rintro r w' ⟨rfl, rfl⟩
    go_wp2_with fail
    refine (left_nil _).mono ?_
    rintro r w' ⟨rfl, rfl⟩
    go_wp2_with fail
    go_ret
    exact ⟨rfl, hT9⟩

set_option maxHeartbeats 800000 in
set_option maxRecDepth 100000 in
theorem cuts_long (a : Option Addr) (l cap : Nat) (c e : Int) (w : World) (hl : 12 < l) :
    Calls Try.prog 5 #[.slice a l cap, .int .u8 c, .int .i8 e] w (TrueNew w) := by
  have hd : decide ((12 : Int) < (l : Int)) = true := by simp; omega
  go_enter Try.func5, Try.ntmps5
  go_wp2_with fail
  refine (awake_true _).mono ?_
  rintro r w1 ⟨rfl, t1⟩
  go_wp2_with fail
  refine (awake_true _).mono ?_
  rintro r w2 ⟨rfl, t2⟩
  go_wp2
  go_ret
  exact ⟨rfl, t1.trans t2 (fun _ _ => id)⟩
end Go.Proofs.Ytimajdbgeibalaa
