/- DigitNums' walk: its first loop, up to the eye. -/
import Derived.Test.YtimajdbgeibalaaNums
namespace Go.Proofs.Ytimajdbgeibalaa
open Go.RowKit
set_option linter.unusedVariables false

theorem take_snoc (xs : List Int) (k : Nat) (h : k < xs.length) : xs.take (k + 1) = xs.take k ++ [xs.getD k 0] := by
  rw [List.take_succ_eq_append_getElem h]; simp [List.getD, h]

theorem drop_cons (xs : List Int) (k : Nat) (h : k < xs.length) : xs.drop k = xs.getD k 0 :: xs.drop (k + 1) := by
  rw [List.drop_eq_getElem_cons h]; simp [List.getD, h]
theorem bytesOf_cons (z : Int) (zs : List Int) : bytesOf (z :: zs) = numB (numL z) ++ bytesOf zs := rfl

theorem own_form {w : World} {base : Nat} {v : Value} {xs : List Int} (h : w.ownsRow base 5 1 v xs.length (xs.map (Value.int .u8))) (h0 : 0 < xs.length) : ∃ g cap, v = .slice (some ⟨g, 0, none⟩) xs.length cap := by
  rcases h.2 with ⟨_, h⟩ | ⟨g, cap', _, h, _⟩
  · omega
  · exact ⟨g, cap', h⟩

theorem both_start (w0 w1 : World) (ht : Turn (fun _ => False) w0 w1) : Both w0 (w1.alloc (.cells #[.slice none 0 0] 27)) w1.heap.size (.slice none 0 0) (.slice none 0 0) [] :=
  ⟨pen_new w1 _, World.ownsRow_nil _ _ _ _, fun g h => by simp [Value.ownBlock] at h, ht.alloc _, ht.size⟩

set_option maxHeartbeats 1600000 in
set_option maxRecDepth 100000 in
theorem nums_walk (b off cap : Nat) (xs : List Int) (most : Int) (w : World) (hl : xs.length ≤ 20) (hc : ∀ i, i < xs.length → w.cell? ⟨b, off + i, none⟩ = some (.int .i64 (xs.getD i 0))) :
    Calls Try.prog 3 #[.slice (some ⟨b, off, none⟩) xs.length cap, .int .i64 most] w (TrueNew w) := by
  obtain ⟨i0, hi, hz0, hz1, hz2⟩ := info_parts Try.info5
  have hd : decide ((20 : Int) < (xs.length : Int)) = false := by simp; omega
  have HC := Lib.hid hc
  clear hc
  obtain ⟨L, hL⟩ : ∃ L, xs.length = L := ⟨_, rfl⟩
  have HL := Lib.hid hL
  rw [hL] at hl hd
  simp only [hL]
  clear hL
  go_enter Try.func3, Try.ntmps3
  go_wp2_with fail
  refine (awake_true _).mono ?_
  rintro e w1 ⟨rfl, t1⟩
  have B0 := both_start w w1 t1
  have hn1 := t1.size
  clear t1
  go_wp2_with fail
  go_loopw [6, 7] (fun vw i wr => ∃ (k : Nat) (vp : Value), k ≤ L ∧ i = .int .i64 (k : Int) ∧ Both w wr w1.heap.size vp vw (bytesOf (xs.take k))) (fun _ i _ => L - (intOf i).toNat)
  case atStart => exact ⟨0, .slice none 0 0, Nat.zero_le _, rfl, B0⟩
  case round =>
    obtain ⟨k, vp, hk, rfl, HB⟩ := hrel
    have hblen := bytesOf_len (xs.take k)
    have hbl : (bytesOf (xs.take k)).length ≤ 180 := by have : (xs.take k).length ≤ k := List.length_take_le _ _; omega
    clear hblen
    by_cases hlt : k < L
    · have hcl0 := HC.out k (by rw [HL.out]; exact hlt)
      have hbs : b < w.heap.size := World.block_lt_of_cell? w _ hcl0
      have hcl := (HB.turn.cell (p := ⟨b, off + k, none⟩) hbs id).trans hcl0
      have HS := Lib.hid (take_snoc xs k (by rw [HL.out]; exact hlt))
      obtain ⟨z, hz⟩ : ∃ z, xs.getD k 0 = z := ⟨_, rfl⟩
      rw [hz] at hcl hcl0
      have HZ := Lib.hid hz
      have hzl := numL_lt z
      have hzn := numB_len 8 (numL z) (by omega)
      have hzp := numB_pos (numL z)
      clear hz
      go_wp2_with fail
      refine (num_any z _).mono ?_
      rintro e w' ⟨rfl, rfl⟩
      go_wp2_with fail
      refine (pen_num (w1.heap.size + 1) w1.heap.size (numL z) vp _ _ hzl (by omega) (by have := HB.pen.lt; omega) HB.pen).mono ?_
      rintro e w2 ⟨rfl, vp', hp2, hf2, ht2⟩
      obtain ⟨ho2, ha2, hT2⟩ := both_pen HB hp2 hf2 ht2
      have hcl2 := (hT2.cell (p := ⟨b, off + k, none⟩) hbs id).trans hcl0
      have hnew := HB.new
      clear hf2 ht2 hcl HB
      go_wp2_with fail
      refine (num_any z _).mono ?_
      rintro e w' ⟨rfl, rfl⟩
      go_wp2_with fail
      refine (ref_num (numL z) _ hzl).mono ?_
      rintro e w3 ⟨v5, rfl, ho5, ht3⟩
      have ho3 := ht3.owns ho2 (fun _ _ => id)
      obtain ⟨g5, c5, hv5⟩ := own_form ho5 hzp
      subst hv5
      have hn5 := Lib.hid (ho5.cells (g := g5) rfl)
      have hsz3 : w1.heap.size + 1 ≤ w3.heap.size := by have := hp2.lt; have := ht3.size; omega
      clear hcl2
      go_wp2_with (at_builtin; refine wpList_append_where _ rfl (.tmp 34) (.tmp 40) 25 rfl (w1.heap.size + 1) 5 i0 (.int .u8 0) 1 1 Try.underlying25 hi hz0 hz1 hz2 rfl (by decide) _ (bytesOf (xs.take k)).length ((bytesOf (xs.take k)).map (Value.int .u8)) rfl ho3 ⟨g5, 0, none⟩ (numB (numL z)).length c5 ((numB (numL z)).map (Value.int .u8)) rfl (by simp) hn5.out (ints_oneCell _ _) ?c3 ?c4 ?c5 ?_)
      case c3 => unfold maxLen; omega
      case c4 => omega
      case c5 => omega
      intro vw' w4 ho4 hg4 hf4 _
      have HB4 := both_want hp2 ho2 ha2 hT2 hnew ht3 ho4 hg4 hf4
      clear ho4 hg4 hf4 ho3 ho2 ha2 hT2 hp2 ho5 ht3
      go_wp2
      go_roundw
      case rel =>
        refine ⟨k + 1, vp', by omega, by go_num, ?_⟩
        rw [HS.out, HZ.out, bytesOf_snoc]; exact HB4
      case measure => simp [intOf]; omega
    · have hkL : k = L := by omega
      have hy : xs.take k = xs := List.take_of_length_le (by rw [HL.out]; omega)
      rw [hy] at HB hbl
      clear hy hkL
      go_wp2_with fail
      have cP : ∀ n, (convert 25 9 vp).run Try.prog (wr.drewN n) = .ok (.string (strOfNums (bytesOf xs))) (wr.drewN n) := fun n => conv_own (w := wr.drewN n) HB.pen.own
      have cW := fun n => conv_own (w := wr.drewN n) HB.own
      have cS : ((strOfNums (bytesOf xs)).toList != (strOfNums (bytesOf xs)).toList) = false := by simp
      have hpc := HB.pen.cell
      go_quiet (fail)
      have hpc2 : (wr.drewN nq).cell? ⟨w1.heap.size, 0, none⟩ = some vp := HB.pen.cell
      have hR : Src (wr.drewN nq) vp (bytesOf xs) := .inl (Reads.of_owns (w := wr.drewN nq) HB.pen.own)
      have hT6 : Turn (fun _ => False) w (wr.drewN nq) := HB.turn.drewN nq
      generalize wr.drewN nq = w6 at hpc2 hR hT6
      clear cP cW cS hpc HB
      go_wp2_with fail
      refine (neweye_any vp (bytesOf xs) _ (by omega) hR).mono ?_
      rintro e w7 ⟨X, v, rfl, hX, he, hv, hk7, t7⟩
      have hX0 : w.heap.size ≤ X := Nat.le_trans hT6.size hX
      have hT7 := hT6.trans t7 (fun _ _ => id)
      clear t7 hX hR hT6 hk7 hpc2
      go_wp2_with fail
      go_loopw [9] (fun i wr => ∃ (k : Nat) (v : Value), k ≤ L ∧ i = .int .i64 (k : Int) ∧ EyeIs wr X v 0 ∧ Reads wr v (bytesOf (xs.drop k)) ∧ Turn (fun _ => False) w wr) (fun i _ => L - (intOf i).toNat)
      case atStart => exact ⟨0, v, Nat.zero_le _, rfl, he, hv, hT7⟩
      case round =>
        obtain ⟨k, v, hk, rfl, he, hv, hT⟩ := hrel
        by_cases hlt : k < L
        · have hcl0 := HC.out k (by rw [HL.out]; exact hlt)
          have hbs : b < w.heap.size := World.block_lt_of_cell? w _ hcl0
          have HS := Lib.hid (drop_cons xs k (by rw [HL.out]; exact hlt))
          obtain ⟨z, hz⟩ : ∃ z, xs.getD k 0 = z := ⟨_, rfl⟩
          rw [hz] at hcl0
          have hzl := numL_lt z
          have HR := hv
          rw [HS.out, hz, bytesOf_cons] at HR
          have hRl : (numB (numL z) ++ bytesOf (xs.drop (k + 1))).length ≤ 70000000000000 := by
            have h1 := numB_len 8 (numL z) (by omega)
            have h2 := bytesOf_len (xs.drop (k + 1))
            have h3 : (xs.drop (k + 1)).length ≤ 20 := by have := HL.out; simp; omega
            simp only [List.length_append]; omega
          clear hz hv HS
          by_cases hbig : most < (numL z : Int) ∧ 0 < numL z
          · obtain ⟨hb1, hb2⟩ := hbig
            by_cases hm0 : most < 0
            all_goals
              go_wp2_with fail
              refine (eye_long X v (numL z) _ most _ he HR hzl hRl hb1 hb2).mono ?_
              rintro e w8 ⟨rfl, he8, t8⟩
              have hT8 : Turn (fun _ => False) w w8 := hT.trans t8 (fun j hj h => by omega)
              have hcl8 := (hT8.cell (p := ⟨b, off + k, none⟩) hbs id).trans hcl0
              clear t8 hT
              go_wp2_with fail
              refine (num_any z _).mono ?_
              rintro e w' ⟨rfl, rfl⟩
              go_wp2_with fail
              refine (fault_any X _ 5 _ he8).mono ?_
              rintro e w' ⟨rfl, rfl⟩
              go_wp2_with fail
              refine (eye_fault X _ 5 5 _ he8 (by omega)).mono ?_
              rintro e w' ⟨rfl, rfl⟩
              go_wp2_with fail
              go_ret
              exact ⟨rfl, hT8⟩
          · have hsm : (numL z : Int) ≤ most ∨ numL z = 0 := by omega
            have hne : ((numL z : Int) != (numL z : Int)) = false := by simp
            by_cases hm0 : most < 0
            all_goals
              go_wp2_with fail
              refine (eye_ok X v (numL z) _ most _ he HR hzl hRl hsm).mono ?_
              rintro e w8 ⟨v8, rfl, he8, hr8, t8, _⟩
              have hT8 : Turn (fun _ => False) w w8 := hT.trans t8 (fun j hj h => by omega)
              have hcl8 := (hT8.cell (p := ⟨b, off + k, none⟩) hbs id).trans hcl0
              clear t8 hT
              go_wp2_with fail
              refine (num_any z _).mono ?_
              rintro e w' ⟨rfl, rfl⟩
              go_wp2_with fail
              refine (num_any z _).mono ?_
              rintro e w' ⟨rfl, rfl⟩
              go_wp2_with fail
              go_roundw
              case rel => exact ⟨k + 1, v8, by omega, by go_num, he8, hr8, hT8⟩
              case measure => simp [intOf]; omega
        · have hkL : xs.drop k = [] := List.drop_eq_nil_of_le (by rw [HL.out]; omega)
          rw [hkL] at hv
          obtain ⟨a9, c9, rfl⟩ := reads_slice hv
          clear hkL hv
          go_wp2_with fail
          refine (end_any X a9 _ c9 0 _ he (by simp [bytesOf])).mono ?_
          rintro e w' ⟨rfl, rfl⟩
          go_wp2_with fail
          go_ret
          exact ⟨rfl, hT⟩

set_option maxHeartbeats 1600000 in
set_option maxRecDepth 100000 in
/-- No numbers, wherever the slice lies. -/
theorem nums_none (a : Option Addr) (cap : Nat) (most : Int) (w : World) : Calls Try.prog 3 #[.slice a 0 cap, .int .i64 most] w (TrueNew w) := by
  go_enter Try.func3, Try.ntmps3
  go_wp2_with fail
  refine (awake_true _).mono ?_
  rintro e w1 ⟨rfl, t1⟩
  go_wp2_with fail
  refine wp_loop_rounds 1 ?_
  rw [rounds_succ]
  go_wp2_with fail
  have hp := pen_new w1 0
  have t2 := t1.alloc (.cells #[.slice none 0 0] 27)
  generalize w1.alloc (.cells #[.slice none 0 0] 27) = w2 at hp t2
  have cP : ∀ n, (convert 25 9 (.slice none 0 0)).run Try.prog (w2.drewN n) = .ok (.string (strOfNums [])) (w2.drewN n) := fun n => Reads.conv (.inl ⟨rfl, rfl⟩)
  have cS : ((strOfNums []).toList != (strOfNums []).toList) = false := by simp
  have hpc := hp.cell
  go_quiet (fail)
  have hpc2 : (w2.drewN nq).cell? ⟨w1.heap.size, 0, none⟩ = some (.slice none 0 0) := hp.cell
  have hT6 : Turn (fun _ => False) w (w2.drewN nq) := t2.drewN nq
  generalize w2.drewN nq = w6 at hpc2 hT6
  clear cP cS hpc hp t1 t2
  go_wp2_with fail
  refine (neweye_any _ [] _ (by simp) (.inl (.inl ⟨rfl, rfl⟩))).mono ?_
  rintro e w7 ⟨X, v, rfl, hX, he, hv, hk7, t7⟩
  have hT7 := hT6.trans t7 (fun _ _ => id)
  obtain ⟨a9, c9, rfl⟩ := reads_slice hv
  clear t7 hX hT6 hk7 hpc2 hv
  go_wp2_with fail
  refine wp_loop_rounds 1 ?_
  rw [rounds_succ]
  go_wp2_with fail
  refine (end_any X a9 _ c9 0 _ he (by simp)).mono ?_
  rintro e w' ⟨rfl, rfl⟩
  go_wp2_with fail
  go_ret
  exact ⟨rfl, hT7⟩

set_option maxHeartbeats 800000 in
set_option maxRecDepth 100000 in
theorem nums_long (a : Option Addr) (l c : Nat) (n : Int) (w : World) (hl : 20 < l) :
    Calls Try.prog 3 #[.slice a l c, .int .i64 n] w (TrueNew w) := by
  have hd : decide ((20 : Int) < (l : Int)) = true := by simp; omega
  go_enter Try.func3, Try.ntmps3
  go_wp2_with fail
  refine (awake_true _).mono ?_
  rintro e w1 ⟨rfl, t1⟩
  go_wp2_with fail
  refine (awake_true _).mono ?_
  rintro e w2 ⟨rfl, t2⟩
  go_wp2
  go_ret
  exact ⟨rfl, t1.trans t2 (fun _ _ => id)⟩
end Go.Proofs.Ytimajdbgeibalaa
