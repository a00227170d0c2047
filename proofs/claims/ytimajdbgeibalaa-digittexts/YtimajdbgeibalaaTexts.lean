/- DigitTexts: for every input the law answers true. -/
import Derived.Test.YtimajdbgeibalaaText
import Derived.Test.YtimajdbgeibalaaNumsWalk
namespace Go.Proofs.Ytimajdbgeibalaa
open Go.RowKit
set_option linter.unusedVariables false
set_option linter.unusedSimpArgs false

theorem Src.drewN {w : World} {v : Value} {xs : List Int} (h : Src w v xs) (k : Nat) : Src (w.drewN k) v xs := by
  rcases h with h | h
  · exact .inl (h.drewN k)
  · exact .inr h
theorem strOf_append (xs ys : List Int) : strOfNums (xs ++ ys) = strOfNums xs ++ strOfNums ys := by
  apply ByteArray.ext
  apply Array.toList_inj.1
  simp [strOfNums]

/-- The bytes of texts. -/
def textsOf (ss : List ByteArray) : List Int := ss.flatMap textB
theorem textsOf_snoc (ss : List ByteArray) (s : ByteArray) : textsOf (ss ++ [s]) = textsOf ss ++ textB s := by simp [textsOf]
theorem textsOf_cons (s : ByteArray) (ss : List ByteArray) : textsOf (s :: ss) = textB s ++ textsOf ss := rfl
theorem textsOf_len (ss : List ByteArray) (h : ∀ s ∈ ss, s.size ≤ 200) : (textsOf ss).length ≤ 209 * ss.length := by
  induction ss with
  | nil => simp [textsOf]
  | cons s ss ih =>
    have h1 := textB_len s (h s (by simp))
    have h2 := ih (fun t ht => h t (by simp [ht]))
    rw [textsOf_cons]; simp; omega
theorem takeS_snoc (xs : List ByteArray) (k : Nat) (h : k < xs.length) : xs.take (k + 1) = xs.take k ++ [xs.getD k ByteArray.empty] := by
  rw [List.take_succ_eq_append_getElem h]; simp [List.getD, h]
theorem dropS_cons (xs : List ByteArray) (k : Nat) (h : k < xs.length) : xs.drop k = xs.getD k ByteArray.empty :: xs.drop (k + 1) := by
  rw [List.drop_eq_getElem_cons h]; simp [List.getD, h]
theorem small_snoc {xs : List ByteArray} {k : Nat} (h : k < xs.length) (h1 : ∀ s ∈ xs.take k, s.size ≤ 200) (h2 : (xs.getD k ByteArray.empty).size ≤ 200) : ∀ s ∈ xs.take (k + 1), s.size ≤ 200 := by
  intro s hs
  rw [takeS_snoc xs k h] at hs
  simp only [List.mem_append, List.mem_singleton] at hs
  rcases hs with hs | rfl
  · exact h1 s hs
  · exact h2

set_option maxHeartbeats 3000000 in
set_option maxRecDepth 100000 in
theorem texts_walk (b off capl : Nat) (xs : List ByteArray) (q : Value) (ps : List Int) (most : Int) (w : World) (hm0 : 0 ≤ most) (hm1 : most ≤ 255) (hl : xs.length ≤ 8) (hpl : ps.length ≤ 50)
    (hc : ∀ i, i < xs.length → w.cell? ⟨b, off + i, none⟩ = some (.string (xs.getD i ByteArray.empty))) (hq : Src w q ps) :
    Calls Try.prog 4 #[.slice (some ⟨b, off, none⟩) xs.length capl, q, .int .u8 most] w (TrueNew w) := by
  obtain ⟨i0, hi, hz0, hz1, hz2⟩ := info_parts Try.info5
  have hd : decide ((8 : Int) < (xs.length : Int)) = false := by simp; omega
  have HC := Lib.hid hc
  clear hc
  obtain ⟨L, hL⟩ : ∃ L, xs.length = L := ⟨_, rfl⟩
  have HL := Lib.hid hL
  rw [hL] at hl hd
  simp only [hL]
  clear hL
  obtain ⟨aq, lq, cq, hqv, hlq⟩ : ∃ aq lq cq, q = .slice aq lq cq ∧ lq = ps.length := by
    rcases src_form hq with ⟨rfl, rfl⟩ | ⟨x, c, rfl⟩
    · exact ⟨_, _, _, rfl, rfl⟩
    · exact ⟨_, _, _, rfl, rfl⟩
  subst hqv
  have hlq50 : lq ≤ 50 := by omega
  have HLQ := Lib.hid hlq
  clear hlq
  have hd2 : decide ((50 : Int) < (lq : Int)) = false := by simp; omega
  go_enter Try.func4, Try.ntmps4
  go_wp2_with fail
  refine (awake_true _).mono ?_
  rintro r w1 ⟨rfl, t1⟩
  have B0 := both_start w w1 t1
  have hn1 := t1.size
  clear t1
  go_wp2_with fail
  go_loopw [8, 9] (fun vw i wr => ∃ (k : Nat) (vp : Value), k ≤ L ∧ i = .int .i64 (k : Int) ∧ (∀ s ∈ xs.take k, s.size ≤ 200) ∧ Both w wr w1.heap.size vp vw (textsOf (xs.take k))) (fun _ i _ => L - (intOf i).toNat)
  case atStart => exact ⟨0, .slice none 0 0, Nat.zero_le _, rfl, by simp, B0⟩
  case round =>
    obtain ⟨k, vp, hk, rfl, hsm, HB⟩ := hrel
    have hblen := textsOf_len (xs.take k) hsm
    have hbl : (textsOf (xs.take k)).length ≤ 1672 := by have : (xs.take k).length ≤ k := List.length_take_le _ _; omega
    have HSM := Lib.hid hsm
    clear hblen hsm
    by_cases hlt : k < L
    · have hcl0 := HC.out k (by rw [HL.out]; exact hlt)
      have hbs : b < w.heap.size := World.block_lt_of_cell? w _ hcl0
      have hcl := (HB.turn.cell (p := ⟨b, off + k, none⟩) hbs id).trans hcl0
      have HS := Lib.hid (takeS_snoc xs k (by rw [HL.out]; exact hlt))
      obtain ⟨z, hz⟩ : ∃ z, xs.getD k ByteArray.empty = z := ⟨_, rfl⟩
      rw [hz] at hcl hcl0
      have HZ := Lib.hid hz
      clear hz
      by_cases hbig : 200 < z.size
      · have hT := HB.turn
        clear HB
        go_wp2_with fail
        go_ret
        exact ⟨rfl, hT⟩
      · have hz200 : z.size ≤ 200 := by omega
        have hzn := textB_len z hz200
        have hzp : 0 < (textB z).length := by have := numB_pos z.size; simp [textB]; omega
        go_wp2_with fail
        refine (pen_text (w1.heap.size + 1) w1.heap.size z vp _ _ hz200 (by omega) (by have := HB.pen.lt; omega) HB.pen).mono ?_
        rintro r w2 ⟨rfl, vp', hp2, hf2, ht2⟩
        obtain ⟨ho2, ha2, hT2⟩ := both_pen HB hp2 hf2 ht2
        have hcl2 := (hT2.cell (p := ⟨b, off + k, none⟩) hbs id).trans hcl0
        have hnew := HB.new
        clear hf2 ht2 hcl HB
        go_wp2_with fail
        refine (ref_text z _ hz200).mono ?_
        rintro r w3 ⟨v5, rfl, ho5, ht3⟩
        have ho3 := ht3.owns ho2 (fun _ _ => id)
        obtain ⟨g5, c5, hv5⟩ := own_form ho5 hzp
        subst hv5
        have hn5 := Lib.hid (ho5.cells (g := g5) rfl)
        have hsz3 : w1.heap.size + 1 ≤ w3.heap.size := by have := hp2.lt; have := ht3.size; omega
        clear hcl2
        go_wp2_with (at_builtin; refine wpList_append_where _ rfl (.tmp 46) (.tmp 51) 25 rfl (w1.heap.size + 1) 5 i0 (.int .u8 0) 1 1 Try.underlying25 hi hz0 hz1 hz2 rfl (by decide) _ (textsOf (xs.take k)).length ((textsOf (xs.take k)).map (Value.int .u8)) rfl ho3 ⟨g5, 0, none⟩ (textB z).length c5 ((textB z).map (Value.int .u8)) rfl (by simp) hn5.out (ints_oneCell _ _) ?c3 ?c4 ?c5 ?_)
        case c3 => unfold maxLen; omega
        case c4 => omega
        case c5 => omega
        intro vw' w4 ho4 hg4 hf4 _
        have HB4 := both_want hp2 ho2 ha2 hT2 hnew ht3 ho4 hg4 hf4
        clear ho4 hg4 hf4 ho3 ho2 ha2 hT2 hp2 ho5 ht3
        go_wp2
        go_roundw
        case rel =>
          refine ⟨k + 1, vp', by omega, by go_num, small_snoc (by rw [HL.out]; exact hlt) HSM.out (by rw [HZ.out]; exact hz200), ?_⟩
          rw [HS.out, HZ.out, textsOf_snoc]; exact HB4
        case measure => simp [intOf]; omega
    · have hy : xs.take k = xs := List.take_of_length_le (by rw [HL.out]; omega)
      rw [hy] at HB hbl
      have hsm2 := HSM.out
      rw [hy] at hsm2
      have HSX := Lib.hid hsm2
      clear hy hsm2 HSM
      have hqr := hq.turn HB.turn (fun _ _ => id)
      go_wp2_with fail
      refine (pen_raw (w1.heap.size + 1) w1.heap.size _ vp _ ps _ (by omega) (by have := HB.pen.lt; omega) HB.pen hqr).mono ?_
      rintro r w5 ⟨rfl, vp5, hp5, hf5, ht5⟩
      obtain ⟨ho5, ha5, hT5⟩ := both_pen HB hp5 hf5 ht5
      have hq5 := hq.turn hT5 (fun _ _ => id)
      clear hf5 ht5 HB ha5 hqr
      go_wp2_with fail
      have cP : ∀ n, (convert 25 9 vp5).run Try.prog (w5.drewN n) = .ok (.string (strOfNums (textsOf xs ++ ps))) (w5.drewN n) := fun n => conv_own (w := w5.drewN n) hp5.own
      have cW := fun n => conv_own (w := w5.drewN n) ho5
      have cQ : ∀ n, (convert 25 9 (.slice aq lq cq)).run Try.prog (w5.drewN n) = .ok (.string (strOfNums ps)) (w5.drewN n) := fun n => (hq5.drewN n).conv
      have hpc := hp5.cell
      have hs1 : (strOfNums (textsOf xs)).size = (textsOf xs).length := strOfNums_size _
      have hs2 : (strOfNums ps).size = ps.length := strOfNums_size _
      have cS : ((strOfNums (textsOf xs ++ ps)).toList == (strOfNums (textsOf xs) ++ strOfNums ps).toList) = true := by
        rw [strOf_append]; simp
      go_quiet (fail)
      have hpc2 : (w5.drewN nq).cell? ⟨w1.heap.size, 0, none⟩ = some vp5 := hp5.cell
      have hR : Src (w5.drewN nq) vp5 (textsOf xs ++ ps) := .inl (Reads.of_owns (w := w5.drewN nq) hp5.own)
      have hT6 : Turn (fun _ => False) w (w5.drewN nq) := hT5.drewN nq
      generalize w5.drewN nq = w6 at hpc2 hR hT6
      clear cP cW cQ hpc hs1 hs2 hp5 ho5 hq5 hT5
      go_wp2_with fail
      clear cS
      refine (neweye_any vp5 (textsOf xs ++ ps) _ (by simp; omega) hR).mono ?_
      rintro r w7 ⟨X, v, rfl, hX, he, hv, hk7, t7⟩
      have hX0 : w.heap.size ≤ X := Nat.le_trans hT6.size hX
      have hT7 := hT6.trans t7 (fun _ _ => id)
      clear t7 hX hR hT6 hk7 hpc2
      go_wp2_with fail
      go_loopw [11] (fun i wr => ∃ (k : Nat) (v : Value), k ≤ L ∧ i = .int .i64 (k : Int) ∧ EyeIs wr X v 0 ∧ Reads wr v (textsOf (xs.drop k) ++ ps) ∧ Turn (fun _ => False) w wr) (fun i _ => L - (intOf i).toNat)
      case atStart => exact ⟨0, v, Nat.zero_le _, rfl, he, hv, hT7⟩
      case round =>
        obtain ⟨k, v, hk, rfl, he, hv, hT⟩ := hrel
        by_cases hlt : k < L
        · have hcl0 := HC.out k (by rw [HL.out]; exact hlt)
          have hbs : b < w.heap.size := World.block_lt_of_cell? w _ hcl0
          have HS := Lib.hid (dropS_cons xs k (by rw [HL.out]; exact hlt))
          obtain ⟨z, hz⟩ : ∃ z, xs.getD k ByteArray.empty = z := ⟨_, rfl⟩
          rw [hz] at hcl0
          have hz200 : z.size ≤ 200 := by
            rw [← hz]
            have hkl : k < xs.length := by rw [HL.out]; exact hlt
            have e1 : xs.getD k ByteArray.empty = xs[k] := by simp [List.getD, hkl]
            rw [e1]; exact HSX.out _ (List.getElem_mem hkl)
          have HR := hv
          rw [HS.out, hz, textsOf_cons, List.append_assoc] at HR
          have hRl : (textsOf (xs.drop (k + 1)) ++ ps).length ≤ 100000 := by
            have h2 := textsOf_len (xs.drop (k + 1)) (fun s hs => HSX.out s (List.mem_of_mem_drop hs))
            have h3 : (xs.drop (k + 1)).length ≤ 8 := by have := HL.out; simp; omega
            simp only [List.length_append]; omega
          clear hz hv HS
          by_cases hbig : most < (z.size : Int)
          · have hse : ((strOfNums []).toList == []) = true := by rw [toList_nums]; rfl
            have hsn : (strOfNums []).toList.isEmpty = true := by rw [toList_nums]; rfl
            go_wp2_with fail
            refine (text_long X v z _ most _ he HR hz200 hRl hbig hm0).mono ?_
            rintro r w8 ⟨rfl, he8, t8⟩
            have hT8 : Turn (fun _ => False) w w8 := hT.trans t8 (fun j hj h => by omega)
            have hcl8 := (hT8.cell (p := ⟨b, off + k, none⟩) hbs id).trans hcl0
            clear t8 hT
            go_wp2_with fail
            refine (fault_any X _ 5 _ he8).mono ?_
            rintro r w' ⟨rfl, rfl⟩
            go_wp2_with fail
            go_ret
            exact ⟨rfl, hT8⟩
          · have hsm : (z.size : Int) ≤ most := by omega
            have hne : (z.toList != z.toList) = false := by simp
            go_wp2_with fail
            refine (text_ok X v z _ most _ he HR hz200 hRl hsm).mono ?_
            rintro r w8 ⟨v8, rfl, he8, hr8, t8, _⟩
            have hT8 : Turn (fun _ => False) w w8 := hT.trans t8 (fun j hj h => by omega)
            have hcl8 := (hT8.cell (p := ⟨b, off + k, none⟩) hbs id).trans hcl0
            clear t8 hT
            go_wp2_with fail
            go_roundw
            case rel => exact ⟨k + 1, v8, by omega, by go_num, he8, hr8, hT8⟩
            case measure => simp [intOf]; omega
        · have hkL : xs.drop k = [] := List.drop_eq_nil_of_le (by rw [HL.out]; omega)
          rw [hkL] at hv
          have hv : Reads wr v ps := hv
          have hqT := hq.turn hT (fun _ _ => id)
          have ks : ((strOfNums ps).toList == (strOfNums ps).toList) = true := by simp
          clear hkL HC
          go_wp2_with fail
          by_cases hl0 : lq = 0
          · have hps0 : ps = [] := List.eq_nil_of_length_eq_zero (by have := HLQ.out; omega)
            obtain ⟨a9, c9, hv9⟩ := reads_slice hv
            subst hv9
            obtain ⟨l9, hl9'⟩ : ∃ l9, ps.length = l9 := ⟨_, rfl⟩
            rw [hl9'] at he
            have hl9 : l9 = 0 := by have := HLQ.out; omega
            subst hl0
            have HP0 := Lib.hid hps0
            clear hps0
            refine wp_region_held_drew (S := fun w' => (convert 25 9 (.slice aq 0 cq)).run Try.prog w' = .ok (.string (strOfNums ps)) w') (by kernel_rfl) ?_ (fun hHeld => ?_)
            · exact (hqT.turn ((Turn.refl (fun _ => False) wr).drew) (fun _ _ => id)).conv
            refine wpAnyH_take (i := 0) (v := ?v0) rfl (by kernel_rfl) (by kernel_rfl) (by kernel_rfl) (fun _ _ _ h => h) (Or.inl ⟨by rfl, ?y0⟩) (by assumption) ?r0
            case y0 => (intro w hSw; (try dsimp only at hSw); (try simp only [List.getElem_toArray, List.getElem_cons_zero, List.getElem_cons_succ]); go_simp; try with_reducible rfl)
            case r0 =>
            try simp only [Act.put, List.setIfInBounds_toArray, List.set_cons_zero, List.set_cons_succ, List.getElem_toArray, List.getElem_cons_zero, List.getElem_cons_succ]
            refine wpAnyH_take (i := 1) (v := .slice aq 0 cq) rfl (by kernel_rfl) (by kernel_rfl) (by kernel_rfl) (fun _ _ _ h => h) (Or.inl ⟨by rfl, ?y1⟩) (by assumption) ?r1
            case y1 => (intro w hSw; (try dsimp only at hSw); (try simp only [List.getElem_toArray, List.getElem_cons_zero, List.getElem_cons_succ]); go_simp; try with_reducible rfl)
            case r1 =>
            try simp only [Act.put, List.setIfInBounds_toArray, List.set_cons_zero, List.set_cons_succ, List.getElem_toArray, List.getElem_cons_zero, List.getElem_cons_succ]
            refine wpAnyH_take (i := 2) (v := .int .i64 0) rfl (by kernel_rfl) (by kernel_rfl) (by kernel_rfl) (fun _ _ _ h => h) (Or.inl ⟨by rfl, ?y2⟩) (by assumption) ?r2
            case y2 => (intro w hSw; (try dsimp only at hSw); (try simp only [List.getElem_toArray, List.getElem_cons_zero, List.getElem_cons_succ]); go_simp; try with_reducible rfl)
            case r2 =>
            try simp only [Act.put, List.setIfInBounds_toArray, List.set_cons_zero, List.set_cons_succ, List.getElem_toArray, List.getElem_cons_zero, List.getElem_cons_succ]
            refine wpAnyH_take (i := 5) (v := .slice aq 0 cq) rfl (by kernel_rfl) (by kernel_rfl) (by kernel_rfl) (fun _ _ _ h => h) (Or.inl ⟨by rfl, ?y5⟩) (by assumption) ?r5
            case y5 => (intro w hSw; (try dsimp only at hSw); (try simp only [List.getElem_toArray, List.getElem_cons_zero, List.getElem_cons_succ]); go_simp; try with_reducible rfl)
            case r5 =>
            try simp only [Act.put, List.setIfInBounds_toArray, List.set_cons_zero, List.set_cons_succ, List.getElem_toArray, List.getElem_cons_zero, List.getElem_cons_succ]
            refine wpAnyH_take (i := 6) (v := ?v6) rfl (by kernel_rfl) (by kernel_rfl) (by kernel_rfl) (fun _ _ _ h => h) (Or.inl ⟨by rfl, ?y6⟩) (by assumption) ?r6
            case y6 => (intro w hSw; (try dsimp only at hSw); (try simp only [List.getElem_toArray, List.getElem_cons_zero, List.getElem_cons_succ]); go_simp; try with_reducible rfl)
            case r6 =>
            try simp only [Act.put, List.setIfInBounds_toArray, List.set_cons_zero, List.set_cons_succ, List.getElem_toArray, List.getElem_cons_zero, List.getElem_cons_succ]
            refine wpAnyH_ready (rs := [3]) (by kernel_rfl) (by simp) ?_
            refine AllReadyH.cons rfl (fun K hK => ?_) AllReadyH.nil
            go_simp
            refine (raw_none X _ _ (by omega)).mono ?_
            rintro r w9 ⟨rfl, rfl⟩
            have hT9 := hT.drew
            have cQ9 : (convert 25 9 (.slice aq 0 cq)).run Try.prog wr.drew = .ok (.string (strOfNums ps)) wr.drew := hHeld
            have he9 : EyeIs wr.drew X _ 0 := ⟨he.rest, he.fault, he.open0, he.open1, he.apart⟩
            have cR : (convert 25 9 (.slice none 0 0)).run Try.prog wr.drew = .ok (.string (strOfNums ps)) wr.drew := by rw [HP0.out]; exact Reads.conv (.inl ⟨rfl, rfl⟩)
            generalize wr.drew = w9 at hT9 cQ9 he9 cR hHeld hK ⊢
            refine hK.out _ _ cQ9 (fun hHeld9 => wpAnyH_switch (S := fun w' => w' = w9) (by rintro _ rfl; exact hHeld9) ?_)
            clear hK K hHeld
            have hw9 : (fun w' => w' = w9) w9 := rfl
            try simp only [Act.put, List.setIfInBounds_toArray, List.set_cons_zero, List.set_cons_succ, List.getElem_toArray, List.getElem_cons_zero, List.getElem_cons_succ]
            refine wpAnyH_take (i := 4) (v := ?v4) rfl (by kernel_rfl) (by kernel_rfl) (by kernel_rfl) (fun _ _ _ h => h) (Or.inl ⟨by rfl, ?y4⟩) (by assumption) ?r4
            case y4 => (intro w hSw; (try dsimp only at hSw); (try simp only [List.getElem_toArray, List.getElem_cons_zero, List.getElem_cons_succ]); go_simp; try with_reducible rfl)
            case r4 =>
            try simp only [Act.put, List.setIfInBounds_toArray, List.set_cons_zero, List.set_cons_succ, List.getElem_toArray, List.getElem_cons_zero, List.getElem_cons_succ]
            refine wpAnyH_take (i := 7) (v := ?v7) rfl (by kernel_rfl) (by kernel_rfl) (by kernel_rfl) (fun _ _ _ h => h) (Or.inl ⟨by rfl, ?y7⟩) (by assumption) ?r7
            case y7 => (intro w hSw; (try dsimp only at hSw); (try simp only [List.getElem_toArray, List.getElem_cons_zero, List.getElem_cons_succ]); go_simp; try with_reducible rfl)
            case r7 =>
            try simp only [Act.put, List.setIfInBounds_toArray, List.set_cons_zero, List.set_cons_succ, List.getElem_toArray, List.getElem_cons_zero, List.getElem_cons_succ]
            refine wpAnyH_take (i := 8) (v := ?v8) rfl (by kernel_rfl) (by kernel_rfl) (by kernel_rfl) (fun _ _ _ h => h) (Or.inl ⟨by rfl, ?y8⟩) (by assumption) ?r8
            case y8 => (intro w hSw; (try dsimp only at hSw); (try simp only [List.getElem_toArray, List.getElem_cons_zero, List.getElem_cons_succ]); go_simp; try with_reducible rfl)
            case r8 =>
            try simp only [Act.put, List.setIfInBounds_toArray, List.set_cons_zero, List.set_cons_succ, List.getElem_toArray, List.getElem_cons_zero, List.getElem_cons_succ]
            refine wpAnyH_take (i := 9) (v := ?v9) rfl (by kernel_rfl) (by kernel_rfl) (by kernel_rfl) (fun _ _ _ h => h) (Or.inl ⟨by rfl, ?y9⟩) (by assumption) ?r9
            case y9 => (intro w hSw; (try dsimp only at hSw); (try simp only [List.getElem_toArray, List.getElem_cons_zero, List.getElem_cons_succ]); go_simp; try with_reducible rfl)
            case r9 =>
            try simp only [Act.put, List.setIfInBounds_toArray, List.set_cons_zero, List.set_cons_succ, List.getElem_toArray, List.getElem_cons_zero, List.getElem_cons_succ]
            refine wpAnyH_ready (rs := [10]) (by kernel_rfl) (by simp) ?_
            refine AllReadyH.cons rfl (fun K hK => ?_) AllReadyH.nil
            go_simp
            refine (end_any X a9 l9 c9 0 _ he9 hl9).mono ?_
            rintro r w' ⟨rfl, rfl⟩
            refine hK.out _ _ rfl (fun hHeld10 => ?_)
            clear hK K
            try simp only [Act.put, List.setIfInBounds_toArray, List.set_cons_zero, List.set_cons_succ, List.getElem_toArray, List.getElem_cons_zero, List.getElem_cons_succ]
            refine wpAnyH_take (i := 11) (v := ?v11) rfl (by kernel_rfl) (by kernel_rfl) (by kernel_rfl) (fun _ _ _ h => h) (Or.inl ⟨by rfl, ?y11⟩) (by assumption) ?r11
            case y11 => (intro w hSw; (try dsimp only at hSw); (try simp only [List.getElem_toArray, List.getElem_cons_zero, List.getElem_cons_succ]); go_simp; try with_reducible rfl)
            case r11 =>
            try simp only [Act.put, List.setIfInBounds_toArray, List.set_cons_zero, List.set_cons_succ, List.getElem_toArray, List.getElem_cons_zero, List.getElem_cons_succ]
            refine wpAnyH_take (i := 12) (v := ?v12) rfl (by kernel_rfl) (by kernel_rfl) (by kernel_rfl) (fun _ _ _ h => h) (Or.inl ⟨by rfl, ?y12⟩) (by assumption) ?r12
            case y12 => (intro w hSw; (try dsimp only at hSw); (try simp only [List.getElem_toArray, List.getElem_cons_zero, List.getElem_cons_succ]); go_simp; try with_reducible rfl)
            case r12 =>
            try simp only [Act.put, List.setIfInBounds_toArray, List.set_cons_zero, List.set_cons_succ, List.getElem_toArray, List.getElem_cons_zero, List.getElem_cons_succ]
            refine wpAnyH_take (i := 13) (v := ?v13) rfl (by kernel_rfl) (by kernel_rfl) (by kernel_rfl) (fun _ _ _ h => h) (Or.inl ⟨by rfl, ?y13⟩) (by assumption) ?r13
            case y13 => (intro w hSw; (try dsimp only at hSw); (try simp only [List.getElem_toArray, List.getElem_cons_zero, List.getElem_cons_succ]); go_simp; try with_reducible rfl)
            case r13 =>
            try simp only [Act.put, List.setIfInBounds_toArray, List.set_cons_zero, List.set_cons_succ, List.getElem_toArray, List.getElem_cons_zero, List.getElem_cons_succ]
            refine wpAnyH_done (by kernel_rfl) ?_ _
            go_wp2
            go_ret
            exact ⟨rfl, hT9⟩

          · have hps1 : ps.take lq = ps := List.take_of_length_le (by rw [HLQ.out]; exact Nat.le_refl _)
            have hps2 : ps.drop lq = [] := List.drop_eq_nil_of_le (by rw [HLQ.out]; exact Nat.le_refl _)
            have hlq1 : lq ≤ ps.length := by rw [HLQ.out]; exact Nat.le_refl _
            have hl1 : 1 ≤ lq := by omega
            clear hl0
            have HP1 := Lib.hid hps1
            have HP2 := Lib.hid hps2
            clear hps1 hps2
            refine wp_region_held_drew (S := fun w' => (convert 25 9 (.slice aq lq cq)).run Try.prog w' = .ok (.string (strOfNums ps)) w') (by kernel_rfl) ?_ (fun hHeld => ?_)
            · exact (hqT.turn ((Turn.refl (fun _ => False) wr).drew) (fun _ _ => id)).conv
            refine wpAnyH_take (i := 0) (v := ?v0) rfl (by kernel_rfl) (by kernel_rfl) (by kernel_rfl) (fun _ _ _ h => h) (Or.inl ⟨by rfl, ?y0⟩) (by assumption) ?r0
            case y0 => (intro w hSw; (try dsimp only at hSw); (try simp only [List.getElem_toArray, List.getElem_cons_zero, List.getElem_cons_succ]); go_simp; try with_reducible rfl)
            case r0 =>
            try simp only [Act.put, List.setIfInBounds_toArray, List.set_cons_zero, List.set_cons_succ, List.getElem_toArray, List.getElem_cons_zero, List.getElem_cons_succ]
            refine wpAnyH_take (i := 1) (v := .slice aq lq cq) rfl (by kernel_rfl) (by kernel_rfl) (by kernel_rfl) (fun _ _ _ h => h) (Or.inl ⟨by rfl, ?y1⟩) (by assumption) ?r1
            case y1 => (intro w hSw; (try dsimp only at hSw); (try simp only [List.getElem_toArray, List.getElem_cons_zero, List.getElem_cons_succ]); go_simp; try with_reducible rfl)
            case r1 =>
            try simp only [Act.put, List.setIfInBounds_toArray, List.set_cons_zero, List.set_cons_succ, List.getElem_toArray, List.getElem_cons_zero, List.getElem_cons_succ]
            refine wpAnyH_take (i := 2) (v := .int .i64 (lq : Int)) rfl (by kernel_rfl) (by kernel_rfl) (by kernel_rfl) (fun _ _ _ h => h) (Or.inl ⟨by rfl, ?y2⟩) (by assumption) ?r2
            case y2 => (intro w hSw; (try dsimp only at hSw); (try simp only [List.getElem_toArray, List.getElem_cons_zero, List.getElem_cons_succ]); go_simp; try with_reducible rfl)
            case r2 =>
            try simp only [Act.put, List.setIfInBounds_toArray, List.set_cons_zero, List.set_cons_succ, List.getElem_toArray, List.getElem_cons_zero, List.getElem_cons_succ]
            refine wpAnyH_take (i := 5) (v := .slice aq lq cq) rfl (by kernel_rfl) (by kernel_rfl) (by kernel_rfl) (fun _ _ _ h => h) (Or.inl ⟨by rfl, ?y5⟩) (by assumption) ?r5
            case y5 => (intro w hSw; (try dsimp only at hSw); (try simp only [List.getElem_toArray, List.getElem_cons_zero, List.getElem_cons_succ]); go_simp; try with_reducible rfl)
            case r5 =>
            try simp only [Act.put, List.setIfInBounds_toArray, List.set_cons_zero, List.set_cons_succ, List.getElem_toArray, List.getElem_cons_zero, List.getElem_cons_succ]
            refine wpAnyH_take (i := 6) (v := ?v6) rfl (by kernel_rfl) (by kernel_rfl) (by kernel_rfl) (fun _ _ _ h => h) (Or.inl ⟨by rfl, ?y6⟩) (by assumption) ?r6
            case y6 => (intro w hSw; (try dsimp only at hSw); (try simp only [List.getElem_toArray, List.getElem_cons_zero, List.getElem_cons_succ]); go_simp; try with_reducible rfl)
            case r6 =>
            try simp only [Act.put, List.setIfInBounds_toArray, List.set_cons_zero, List.set_cons_succ, List.getElem_toArray, List.getElem_cons_zero, List.getElem_cons_succ]
            refine wpAnyH_ready (rs := [3]) (by kernel_rfl) (by simp) ?_
            refine AllReadyH.cons rfl (fun K hK => ?_) AllReadyH.nil
            go_simp
            refine (raw_reads X v ps lq _ (he.turn ((Turn.refl (fun _ => False) wr).drew) id) (hv.turn ((Turn.refl (fun _ => False) wr).drew) (fun _ _ => id)) (by omega) (by omega) (by omega)).mono ?_
            rintro r w9 ⟨q9, v9, rfl, hq9, he9, hz9, t9, _, _⟩
            have hT9 : Turn (fun _ => False) w w9 := hT.trans t9.of_drew (fun j hj h => by omega)
            have cQ9 := (hq.turn hT9 (fun _ _ => id)).conv
            rw [HP1.out] at hq9
            have cR := hq9.conv
            rw [HP2.out] at hz9
            obtain ⟨a9, c9, hv9⟩ := reads_slice hz9
            subst hv9
            have hl9 : ([] : List Int).length = 0 := rfl
            generalize ([] : List Int).length = l9 at he9 hl9
            refine hK.out _ _ cQ9 (fun hHeld9 => wpAnyH_switch (S := fun w' => w' = w9) (by rintro _ rfl; exact hHeld9) ?_)
            clear hK K hHeld
            have hw9 : (fun w' => w' = w9) w9 := rfl
            try simp only [Act.put, List.setIfInBounds_toArray, List.set_cons_zero, List.set_cons_succ, List.getElem_toArray, List.getElem_cons_zero, List.getElem_cons_succ]
            refine wpAnyH_take (i := 4) (v := ?v4) rfl (by kernel_rfl) (by kernel_rfl) (by kernel_rfl) (fun _ _ _ h => h) (Or.inl ⟨by rfl, ?y4⟩) (by assumption) ?r4
            case y4 => (intro w hSw; (try dsimp only at hSw); (try simp only [List.getElem_toArray, List.getElem_cons_zero, List.getElem_cons_succ]); go_simp; try with_reducible rfl)
            case r4 =>
            try simp only [Act.put, List.setIfInBounds_toArray, List.set_cons_zero, List.set_cons_succ, List.getElem_toArray, List.getElem_cons_zero, List.getElem_cons_succ]
            refine wpAnyH_take (i := 7) (v := ?v7) rfl (by kernel_rfl) (by kernel_rfl) (by kernel_rfl) (fun _ _ _ h => h) (Or.inl ⟨by rfl, ?y7⟩) (by assumption) ?r7
            case y7 => (intro w hSw; (try dsimp only at hSw); (try simp only [List.getElem_toArray, List.getElem_cons_zero, List.getElem_cons_succ]); go_simp; try with_reducible rfl)
            case r7 =>
            try simp only [Act.put, List.setIfInBounds_toArray, List.set_cons_zero, List.set_cons_succ, List.getElem_toArray, List.getElem_cons_zero, List.getElem_cons_succ]
            refine wpAnyH_take (i := 8) (v := ?v8) rfl (by kernel_rfl) (by kernel_rfl) (by kernel_rfl) (fun _ _ _ h => h) (Or.inl ⟨by rfl, ?y8⟩) (by assumption) ?r8
            case y8 => (intro w hSw; (try dsimp only at hSw); (try simp only [List.getElem_toArray, List.getElem_cons_zero, List.getElem_cons_succ]); go_simp; try with_reducible rfl)
            case r8 =>
            try simp only [Act.put, List.setIfInBounds_toArray, List.set_cons_zero, List.set_cons_succ, List.getElem_toArray, List.getElem_cons_zero, List.getElem_cons_succ]
            refine wpAnyH_take (i := 9) (v := ?v9) rfl (by kernel_rfl) (by kernel_rfl) (by kernel_rfl) (fun _ _ _ h => h) (Or.inl ⟨by rfl, ?y9⟩) (by assumption) ?r9
            case y9 => (intro w hSw; (try dsimp only at hSw); (try simp only [List.getElem_toArray, List.getElem_cons_zero, List.getElem_cons_succ]); go_simp; try with_reducible rfl)
            case r9 =>
            try simp only [Act.put, List.setIfInBounds_toArray, List.set_cons_zero, List.set_cons_succ, List.getElem_toArray, List.getElem_cons_zero, List.getElem_cons_succ]
            refine wpAnyH_ready (rs := [10]) (by kernel_rfl) (by simp) ?_
            refine AllReadyH.cons rfl (fun K hK => ?_) AllReadyH.nil
            go_simp
            refine (end_any X a9 l9 c9 0 _ he9 hl9).mono ?_
            rintro r w' ⟨rfl, rfl⟩
            refine hK.out _ _ rfl (fun hHeld10 => ?_)
            clear hK K
            try simp only [Act.put, List.setIfInBounds_toArray, List.set_cons_zero, List.set_cons_succ, List.getElem_toArray, List.getElem_cons_zero, List.getElem_cons_succ]
            refine wpAnyH_take (i := 11) (v := ?v11) rfl (by kernel_rfl) (by kernel_rfl) (by kernel_rfl) (fun _ _ _ h => h) (Or.inl ⟨by rfl, ?y11⟩) (by assumption) ?r11
            case y11 => (intro w hSw; (try dsimp only at hSw); (try simp only [List.getElem_toArray, List.getElem_cons_zero, List.getElem_cons_succ]); go_simp; try with_reducible rfl)
            case r11 =>
            try simp only [Act.put, List.setIfInBounds_toArray, List.set_cons_zero, List.set_cons_succ, List.getElem_toArray, List.getElem_cons_zero, List.getElem_cons_succ]
            refine wpAnyH_take (i := 12) (v := ?v12) rfl (by kernel_rfl) (by kernel_rfl) (by kernel_rfl) (fun _ _ _ h => h) (Or.inl ⟨by rfl, ?y12⟩) (by assumption) ?r12
            case y12 => (intro w hSw; (try dsimp only at hSw); (try simp only [List.getElem_toArray, List.getElem_cons_zero, List.getElem_cons_succ]); go_simp; try with_reducible rfl)
            case r12 =>
            try simp only [Act.put, List.setIfInBounds_toArray, List.set_cons_zero, List.set_cons_succ, List.getElem_toArray, List.getElem_cons_zero, List.getElem_cons_succ]
            refine wpAnyH_take (i := 13) (v := ?v13) rfl (by kernel_rfl) (by kernel_rfl) (by kernel_rfl) (fun _ _ _ h => h) (Or.inl ⟨by rfl, ?y13⟩) (by assumption) ?r13
            case y13 => (intro w hSw; (try dsimp only at hSw); (try simp only [List.getElem_toArray, List.getElem_cons_zero, List.getElem_cons_succ]); go_simp; try with_reducible rfl)
            case r13 =>
            try simp only [Act.put, List.setIfInBounds_toArray, List.set_cons_zero, List.set_cons_succ, List.getElem_toArray, List.getElem_cons_zero, List.getElem_cons_succ]
            refine wpAnyH_done (by kernel_rfl) ?_ _
            go_wp2
            go_ret
            exact ⟨rfl, hT9⟩


set_option maxHeartbeats 3000000 in
set_option maxRecDepth 100000 in
/-- No texts, wherever the slice lies. -/
theorem texts_none (a : Option Addr) (capl : Nat) (q : Value) (ps : List Int) (most : Int) (w : World) (hm0 : 0 ≤ most) (hm1 : most ≤ 255) (hpl : ps.length ≤ 50) (hq : Src w q ps) :
    Calls Try.prog 4 #[.slice a 0 capl, q, .int .u8 most] w (TrueNew w) := by
  obtain ⟨aq, lq, cq, hqv, hlq⟩ : ∃ aq lq cq, q = .slice aq lq cq ∧ lq = ps.length := by
    rcases src_form hq with ⟨rfl, rfl⟩ | ⟨x, c, rfl⟩
    · exact ⟨_, _, _, rfl, rfl⟩
    · exact ⟨_, _, _, rfl, rfl⟩
  subst hqv
  have hlq50 : lq ≤ 50 := by omega
  have HLQ := Lib.hid hlq
  clear hlq
  have hd2 : decide ((50 : Int) < (lq : Int)) = false := by simp; omega
  go_enter Try.func4, Try.ntmps4
  go_wp2_with fail
  refine (awake_true _).mono ?_
  rintro r w1 ⟨rfl, t1⟩
  have HB := both_start w w1 t1
  have hn1 := t1.size
  clear t1
  go_wp2_with fail
  refine wp_loop_rounds 1 ?_
  rw [rounds_succ]
  generalize w1.alloc (.cells #[.slice none 0 0] 27) = wr at HB ⊢
  have hqr := hq.turn HB.turn (fun _ _ => id)
  go_wp2_with fail
  refine (pen_raw (w1.heap.size + 1) w1.heap.size _ (.slice none 0 0) _ ps _ (by simp; omega) (by have := HB.pen.lt; omega) HB.pen hqr).mono ?_
  rintro r w5 ⟨rfl, vp5, hp5, hf5, ht5⟩
  obtain ⟨ho5, ha5, hT5⟩ := both_pen HB hp5 hf5 ht5
  have hq5 := hq.turn hT5 (fun _ _ => id)
  clear hf5 ht5 HB ha5 hqr ho5
  go_wp2_with fail
  have cP : ∀ n, (convert 25 9 vp5).run Try.prog (w5.drewN n) = .ok (.string (strOfNums ([] ++ ps))) (w5.drewN n) := fun n => conv_own (w := w5.drewN n) hp5.own
  have cW : ∀ n, (convert 25 9 (.slice none 0 0)).run Try.prog (w5.drewN n) = .ok (.string (strOfNums [])) (w5.drewN n) := fun n => Reads.conv (.inl ⟨rfl, rfl⟩)
  have cQ : ∀ n, (convert 25 9 (.slice aq lq cq)).run Try.prog (w5.drewN n) = .ok (.string (strOfNums ps)) (w5.drewN n) := fun n => (hq5.drewN n).conv
  have hpc := hp5.cell
  have hs1 : (strOfNums []).size = 0 := strOfNums_size _
  have hs2 : (strOfNums ps).size = ps.length := strOfNums_size _
  have cS : ((strOfNums ps).toList == (strOfNums [] ++ strOfNums ps).toList) = true := by
    rw [← strOf_append]; simp
  simp only [List.nil_append] at cP
  go_quiet (fail)
  have hpc2 : (w5.drewN nq).cell? ⟨w1.heap.size, 0, none⟩ = some vp5 := hp5.cell
  have hR : Src (w5.drewN nq) vp5 ps := .inl (Reads.of_owns (w := w5.drewN nq) hp5.own)
  have hT6 : Turn (fun _ => False) w (w5.drewN nq) := hT5.drewN nq
  generalize w5.drewN nq = w6 at hpc2 hR hT6
  clear cP cW cQ hpc hs1 hs2 hp5 hq5 hT5
  go_wp2_with fail
  clear cS
  refine (neweye_any vp5 ps _ (by omega) hR).mono ?_
  rintro r w7 ⟨X, v, rfl, hX, he, hv, hk7, t7⟩
  have hX0 : w.heap.size ≤ X := Nat.le_trans hT6.size hX
  have hT := hT6.trans t7 (fun _ _ => id)
  have hqT := hq.turn hT (fun _ _ => id)
  have ks : ((strOfNums ps).toList == (strOfNums ps).toList) = true := by simp
  clear t7 hX hR hT6 hk7 hpc2
  go_wp2_with fail
  refine wp_loop_rounds 1 ?_
  rw [rounds_succ]
  go_wp2_with fail
  by_cases hl0 : lq = 0
  · have hps0 : ps = [] := List.eq_nil_of_length_eq_zero (by have := HLQ.out; omega)
    obtain ⟨a9, c9, hv9⟩ := reads_slice hv
    subst hv9
    obtain ⟨l9, hl9'⟩ : ∃ l9, ps.length = l9 := ⟨_, rfl⟩
    rw [hl9'] at he
    have hl9 : l9 = 0 := by have := HLQ.out; omega
    subst hl0
    have HP0 := Lib.hid hps0
    clear hps0
    refine wp_region_held_drew (S := fun w' => (convert 25 9 (.slice aq 0 cq)).run Try.prog w' = .ok (.string (strOfNums ps)) w') (by kernel_rfl) ?_ (fun hHeld => ?_)
    · exact (hqT.turn ((Turn.refl (fun _ => False) w7).drew) (fun _ _ => id)).conv
    refine wpAnyH_take (i := 0) (v := ?v0) rfl (by kernel_rfl) (by kernel_rfl) (by kernel_rfl) (fun _ _ _ h => h) (Or.inl ⟨by rfl, ?y0⟩) (by assumption) ?r0
    case y0 => (intro w hSw; (try dsimp only at hSw); (try simp only [List.getElem_toArray, List.getElem_cons_zero, List.getElem_cons_succ]); go_simp; try with_reducible rfl)
    case r0 =>
    try simp only [Act.put, List.setIfInBounds_toArray, List.set_cons_zero, List.set_cons_succ, List.getElem_toArray, List.getElem_cons_zero, List.getElem_cons_succ]
    refine wpAnyH_take (i := 1) (v := .slice aq 0 cq) rfl (by kernel_rfl) (by kernel_rfl) (by kernel_rfl) (fun _ _ _ h => h) (Or.inl ⟨by rfl, ?y1⟩) (by assumption) ?r1
    case y1 => (intro w hSw; (try dsimp only at hSw); (try simp only [List.getElem_toArray, List.getElem_cons_zero, List.getElem_cons_succ]); go_simp; try with_reducible rfl)
    case r1 =>
    try simp only [Act.put, List.setIfInBounds_toArray, List.set_cons_zero, List.set_cons_succ, List.getElem_toArray, List.getElem_cons_zero, List.getElem_cons_succ]
    refine wpAnyH_take (i := 2) (v := .int .i64 0) rfl (by kernel_rfl) (by kernel_rfl) (by kernel_rfl) (fun _ _ _ h => h) (Or.inl ⟨by rfl, ?y2⟩) (by assumption) ?r2
    case y2 => (intro w hSw; (try dsimp only at hSw); (try simp only [List.getElem_toArray, List.getElem_cons_zero, List.getElem_cons_succ]); go_simp; try with_reducible rfl)
    case r2 =>
    try simp only [Act.put, List.setIfInBounds_toArray, List.set_cons_zero, List.set_cons_succ, List.getElem_toArray, List.getElem_cons_zero, List.getElem_cons_succ]
    refine wpAnyH_take (i := 5) (v := .slice aq 0 cq) rfl (by kernel_rfl) (by kernel_rfl) (by kernel_rfl) (fun _ _ _ h => h) (Or.inl ⟨by rfl, ?y5⟩) (by assumption) ?r5
    case y5 => (intro w hSw; (try dsimp only at hSw); (try simp only [List.getElem_toArray, List.getElem_cons_zero, List.getElem_cons_succ]); go_simp; try with_reducible rfl)
    case r5 =>
    try simp only [Act.put, List.setIfInBounds_toArray, List.set_cons_zero, List.set_cons_succ, List.getElem_toArray, List.getElem_cons_zero, List.getElem_cons_succ]
    refine wpAnyH_take (i := 6) (v := ?v6) rfl (by kernel_rfl) (by kernel_rfl) (by kernel_rfl) (fun _ _ _ h => h) (Or.inl ⟨by rfl, ?y6⟩) (by assumption) ?r6
    case y6 => (intro w hSw; (try dsimp only at hSw); (try simp only [List.getElem_toArray, List.getElem_cons_zero, List.getElem_cons_succ]); go_simp; try with_reducible rfl)
    case r6 =>
    try simp only [Act.put, List.setIfInBounds_toArray, List.set_cons_zero, List.set_cons_succ, List.getElem_toArray, List.getElem_cons_zero, List.getElem_cons_succ]
    refine wpAnyH_ready (rs := [3]) (by kernel_rfl) (by simp) ?_
    refine AllReadyH.cons rfl (fun K hK => ?_) AllReadyH.nil
    go_simp
    refine (raw_none X _ _ (by omega)).mono ?_
    rintro r w9 ⟨rfl, rfl⟩
    have hT9 := hT.drew
    have cQ9 : (convert 25 9 (.slice aq 0 cq)).run Try.prog w7.drew = .ok (.string (strOfNums ps)) w7.drew := hHeld
    have he9 : EyeIs w7.drew X _ 0 := ⟨he.rest, he.fault, he.open0, he.open1, he.apart⟩
    have cR : (convert 25 9 (.slice none 0 0)).run Try.prog w7.drew = .ok (.string (strOfNums ps)) w7.drew := by rw [HP0.out]; exact Reads.conv (.inl ⟨rfl, rfl⟩)
    generalize w7.drew = w9 at hT9 cQ9 he9 cR hHeld hK ⊢
    refine hK.out _ _ cQ9 (fun hHeld9 => wpAnyH_switch (S := fun w' => w' = w9) (by rintro _ rfl; exact hHeld9) ?_)
    clear hK K hHeld
    have hw9 : (fun w' => w' = w9) w9 := rfl
    try simp only [Act.put, List.setIfInBounds_toArray, List.set_cons_zero, List.set_cons_succ, List.getElem_toArray, List.getElem_cons_zero, List.getElem_cons_succ]
    refine wpAnyH_take (i := 4) (v := ?v4) rfl (by kernel_rfl) (by kernel_rfl) (by kernel_rfl) (fun _ _ _ h => h) (Or.inl ⟨by rfl, ?y4⟩) (by assumption) ?r4
    case y4 => (intro w hSw; (try dsimp only at hSw); (try simp only [List.getElem_toArray, List.getElem_cons_zero, List.getElem_cons_succ]); go_simp; try with_reducible rfl)
    case r4 =>
    try simp only [Act.put, List.setIfInBounds_toArray, List.set_cons_zero, List.set_cons_succ, List.getElem_toArray, List.getElem_cons_zero, List.getElem_cons_succ]
    refine wpAnyH_take (i := 7) (v := ?v7) rfl (by kernel_rfl) (by kernel_rfl) (by kernel_rfl) (fun _ _ _ h => h) (Or.inl ⟨by rfl, ?y7⟩) (by assumption) ?r7
    case y7 => (intro w hSw; (try dsimp only at hSw); (try simp only [List.getElem_toArray, List.getElem_cons_zero, List.getElem_cons_succ]); go_simp; try with_reducible rfl)
    case r7 =>
    try simp only [Act.put, List.setIfInBounds_toArray, List.set_cons_zero, List.set_cons_succ, List.getElem_toArray, List.getElem_cons_zero, List.getElem_cons_succ]
    refine wpAnyH_take (i := 8) (v := ?v8) rfl (by kernel_rfl) (by kernel_rfl) (by kernel_rfl) (fun _ _ _ h => h) (Or.inl ⟨by rfl, ?y8⟩) (by assumption) ?r8
    case y8 => (intro w hSw; (try dsimp only at hSw); (try simp only [List.getElem_toArray, List.getElem_cons_zero, List.getElem_cons_succ]); go_simp; try with_reducible rfl)
    case r8 =>
    try simp only [Act.put, List.setIfInBounds_toArray, List.set_cons_zero, List.set_cons_succ, List.getElem_toArray, List.getElem_cons_zero, List.getElem_cons_succ]
    refine wpAnyH_take (i := 9) (v := ?v9) rfl (by kernel_rfl) (by kernel_rfl) (by kernel_rfl) (fun _ _ _ h => h) (Or.inl ⟨by rfl, ?y9⟩) (by assumption) ?r9
    case y9 => (intro w hSw; (try dsimp only at hSw); (try simp only [List.getElem_toArray, List.getElem_cons_zero, List.getElem_cons_succ]); go_simp; try with_reducible rfl)
    case r9 =>
    try simp only [Act.put, List.setIfInBounds_toArray, List.set_cons_zero, List.set_cons_succ, List.getElem_toArray, List.getElem_cons_zero, List.getElem_cons_succ]
    refine wpAnyH_ready (rs := [10]) (by kernel_rfl) (by simp) ?_
    refine AllReadyH.cons rfl (fun K hK => ?_) AllReadyH.nil
    go_simp
    refine (end_any X a9 l9 c9 0 _ he9 hl9).mono ?_
    rintro r w' ⟨rfl, rfl⟩
    refine hK.out _ _ rfl (fun hHeld10 => ?_)
    clear hK K
    try simp only [Act.put, List.setIfInBounds_toArray, List.set_cons_zero, List.set_cons_succ, List.getElem_toArray, List.getElem_cons_zero, List.getElem_cons_succ]
    refine wpAnyH_take (i := 11) (v := ?v11) rfl (by kernel_rfl) (by kernel_rfl) (by kernel_rfl) (fun _ _ _ h => h) (Or.inl ⟨by rfl, ?y11⟩) (by assumption) ?r11
    case y11 => (intro w hSw; (try dsimp only at hSw); (try simp only [List.getElem_toArray, List.getElem_cons_zero, List.getElem_cons_succ]); go_simp; try with_reducible rfl)
    case r11 =>
    try simp only [Act.put, List.setIfInBounds_toArray, List.set_cons_zero, List.set_cons_succ, List.getElem_toArray, List.getElem_cons_zero, List.getElem_cons_succ]
    refine wpAnyH_take (i := 12) (v := ?v12) rfl (by kernel_rfl) (by kernel_rfl) (by kernel_rfl) (fun _ _ _ h => h) (Or.inl ⟨by rfl, ?y12⟩) (by assumption) ?r12
    case y12 => (intro w hSw; (try dsimp only at hSw); (try simp only [List.getElem_toArray, List.getElem_cons_zero, List.getElem_cons_succ]); go_simp; try with_reducible rfl)
    case r12 =>
    try simp only [Act.put, List.setIfInBounds_toArray, List.set_cons_zero, List.set_cons_succ, List.getElem_toArray, List.getElem_cons_zero, List.getElem_cons_succ]
    refine wpAnyH_take (i := 13) (v := ?v13) rfl (by kernel_rfl) (by kernel_rfl) (by kernel_rfl) (fun _ _ _ h => h) (Or.inl ⟨by rfl, ?y13⟩) (by assumption) ?r13
    case y13 => (intro w hSw; (try dsimp only at hSw); (try simp only [List.getElem_toArray, List.getElem_cons_zero, List.getElem_cons_succ]); go_simp; try with_reducible rfl)
    case r13 =>
    try simp only [Act.put, List.setIfInBounds_toArray, List.set_cons_zero, List.set_cons_succ, List.getElem_toArray, List.getElem_cons_zero, List.getElem_cons_succ]
    refine wpAnyH_done (by kernel_rfl) ?_ _
    go_wp2
    go_ret
    exact ⟨rfl, hT9⟩

  · have hps1 : ps.take lq = ps := List.take_of_length_le (by rw [HLQ.out]; exact Nat.le_refl _)
    have hps2 : ps.drop lq = [] := List.drop_eq_nil_of_le (by rw [HLQ.out]; exact Nat.le_refl _)
    have hlq1 : lq ≤ ps.length := by rw [HLQ.out]; exact Nat.le_refl _
    have hl1 : 1 ≤ lq := by omega
    clear hl0
    have HP1 := Lib.hid hps1
    have HP2 := Lib.hid hps2
    clear hps1 hps2
    refine wp_region_held_drew (S := fun w' => (convert 25 9 (.slice aq lq cq)).run Try.prog w' = .ok (.string (strOfNums ps)) w') (by kernel_rfl) ?_ (fun hHeld => ?_)
    · exact (hqT.turn ((Turn.refl (fun _ => False) w7).drew) (fun _ _ => id)).conv
    refine wpAnyH_take (i := 0) (v := ?v0) rfl (by kernel_rfl) (by kernel_rfl) (by kernel_rfl) (fun _ _ _ h => h) (Or.inl ⟨by rfl, ?y0⟩) (by assumption) ?r0
    case y0 => (intro w hSw; (try dsimp only at hSw); (try simp only [List.getElem_toArray, List.getElem_cons_zero, List.getElem_cons_succ]); go_simp; try with_reducible rfl)
    case r0 =>
    try simp only [Act.put, List.setIfInBounds_toArray, List.set_cons_zero, List.set_cons_succ, List.getElem_toArray, List.getElem_cons_zero, List.getElem_cons_succ]
    refine wpAnyH_take (i := 1) (v := .slice aq lq cq) rfl (by kernel_rfl) (by kernel_rfl) (by kernel_rfl) (fun _ _ _ h => h) (Or.inl ⟨by rfl, ?y1⟩) (by assumption) ?r1
    case y1 => (intro w hSw; (try dsimp only at hSw); (try simp only [List.getElem_toArray, List.getElem_cons_zero, List.getElem_cons_succ]); go_simp; try with_reducible rfl)
    case r1 =>
    try simp only [Act.put, List.setIfInBounds_toArray, List.set_cons_zero, List.set_cons_succ, List.getElem_toArray, List.getElem_cons_zero, List.getElem_cons_succ]
    refine wpAnyH_take (i := 2) (v := .int .i64 (lq : Int)) rfl (by kernel_rfl) (by kernel_rfl) (by kernel_rfl) (fun _ _ _ h => h) (Or.inl ⟨by rfl, ?y2⟩) (by assumption) ?r2
    case y2 => (intro w hSw; (try dsimp only at hSw); (try simp only [List.getElem_toArray, List.getElem_cons_zero, List.getElem_cons_succ]); go_simp; try with_reducible rfl)
    case r2 =>
    try simp only [Act.put, List.setIfInBounds_toArray, List.set_cons_zero, List.set_cons_succ, List.getElem_toArray, List.getElem_cons_zero, List.getElem_cons_succ]
    refine wpAnyH_take (i := 5) (v := .slice aq lq cq) rfl (by kernel_rfl) (by kernel_rfl) (by kernel_rfl) (fun _ _ _ h => h) (Or.inl ⟨by rfl, ?y5⟩) (by assumption) ?r5
    case y5 => (intro w hSw; (try dsimp only at hSw); (try simp only [List.getElem_toArray, List.getElem_cons_zero, List.getElem_cons_succ]); go_simp; try with_reducible rfl)
    case r5 =>
    try simp only [Act.put, List.setIfInBounds_toArray, List.set_cons_zero, List.set_cons_succ, List.getElem_toArray, List.getElem_cons_zero, List.getElem_cons_succ]
    refine wpAnyH_take (i := 6) (v := ?v6) rfl (by kernel_rfl) (by kernel_rfl) (by kernel_rfl) (fun _ _ _ h => h) (Or.inl ⟨by rfl, ?y6⟩) (by assumption) ?r6
    case y6 => (intro w hSw; (try dsimp only at hSw); (try simp only [List.getElem_toArray, List.getElem_cons_zero, List.getElem_cons_succ]); go_simp; try with_reducible rfl)
    case r6 =>
    try simp only [Act.put, List.setIfInBounds_toArray, List.set_cons_zero, List.set_cons_succ, List.getElem_toArray, List.getElem_cons_zero, List.getElem_cons_succ]
    refine wpAnyH_ready (rs := [3]) (by kernel_rfl) (by simp) ?_
    refine AllReadyH.cons rfl (fun K hK => ?_) AllReadyH.nil
    go_simp
    refine (raw_reads X v ps lq _ (he.turn ((Turn.refl (fun _ => False) w7).drew) id) (hv.turn ((Turn.refl (fun _ => False) w7).drew) (fun _ _ => id)) (by omega) (by omega) (by omega)).mono ?_
    rintro r w9 ⟨q9, v9, rfl, hq9, he9, hz9, t9, _, _⟩
    have hT9 : Turn (fun _ => False) w w9 := hT.trans t9.of_drew (fun j hj h => by omega)
    have cQ9 := (hq.turn hT9 (fun _ _ => id)).conv
    rw [HP1.out] at hq9
    have cR := hq9.conv
    rw [HP2.out] at hz9
    obtain ⟨a9, c9, hv9⟩ := reads_slice hz9
    subst hv9
    have hl9 : ([] : List Int).length = 0 := rfl
    generalize ([] : List Int).length = l9 at he9 hl9
    refine hK.out _ _ cQ9 (fun hHeld9 => wpAnyH_switch (S := fun w' => w' = w9) (by rintro _ rfl; exact hHeld9) ?_)
    clear hK K hHeld
    have hw9 : (fun w' => w' = w9) w9 := rfl
    try simp only [Act.put, List.setIfInBounds_toArray, List.set_cons_zero, List.set_cons_succ, List.getElem_toArray, List.getElem_cons_zero, List.getElem_cons_succ]
    refine wpAnyH_take (i := 4) (v := ?v4) rfl (by kernel_rfl) (by kernel_rfl) (by kernel_rfl) (fun _ _ _ h => h) (Or.inl ⟨by rfl, ?y4⟩) (by assumption) ?r4
    case y4 => (intro w hSw; (try dsimp only at hSw); (try simp only [List.getElem_toArray, List.getElem_cons_zero, List.getElem_cons_succ]); go_simp; try with_reducible rfl)
    case r4 =>
    try simp only [Act.put, List.setIfInBounds_toArray, List.set_cons_zero, List.set_cons_succ, List.getElem_toArray, List.getElem_cons_zero, List.getElem_cons_succ]
    refine wpAnyH_take (i := 7) (v := ?v7) rfl (by kernel_rfl) (by kernel_rfl) (by kernel_rfl) (fun _ _ _ h => h) (Or.inl ⟨by rfl, ?y7⟩) (by assumption) ?r7
    case y7 => (intro w hSw; (try dsimp only at hSw); (try simp only [List.getElem_toArray, List.getElem_cons_zero, List.getElem_cons_succ]); go_simp; try with_reducible rfl)
    case r7 =>
    try simp only [Act.put, List.setIfInBounds_toArray, List.set_cons_zero, List.set_cons_succ, List.getElem_toArray, List.getElem_cons_zero, List.getElem_cons_succ]
    refine wpAnyH_take (i := 8) (v := ?v8) rfl (by kernel_rfl) (by kernel_rfl) (by kernel_rfl) (fun _ _ _ h => h) (Or.inl ⟨by rfl, ?y8⟩) (by assumption) ?r8
    case y8 => (intro w hSw; (try dsimp only at hSw); (try simp only [List.getElem_toArray, List.getElem_cons_zero, List.getElem_cons_succ]); go_simp; try with_reducible rfl)
    case r8 =>
    try simp only [Act.put, List.setIfInBounds_toArray, List.set_cons_zero, List.set_cons_succ, List.getElem_toArray, List.getElem_cons_zero, List.getElem_cons_succ]
    refine wpAnyH_take (i := 9) (v := ?v9) rfl (by kernel_rfl) (by kernel_rfl) (by kernel_rfl) (fun _ _ _ h => h) (Or.inl ⟨by rfl, ?y9⟩) (by assumption) ?r9
    case y9 => (intro w hSw; (try dsimp only at hSw); (try simp only [List.getElem_toArray, List.getElem_cons_zero, List.getElem_cons_succ]); go_simp; try with_reducible rfl)
    case r9 =>
    try simp only [Act.put, List.setIfInBounds_toArray, List.set_cons_zero, List.set_cons_succ, List.getElem_toArray, List.getElem_cons_zero, List.getElem_cons_succ]
    refine wpAnyH_ready (rs := [10]) (by kernel_rfl) (by simp) ?_
    refine AllReadyH.cons rfl (fun K hK => ?_) AllReadyH.nil
    go_simp
    refine (end_any X a9 l9 c9 0 _ he9 hl9).mono ?_
    rintro r w' ⟨rfl, rfl⟩
    refine hK.out _ _ rfl (fun hHeld10 => ?_)
    clear hK K
    try simp only [Act.put, List.setIfInBounds_toArray, List.set_cons_zero, List.set_cons_succ, List.getElem_toArray, List.getElem_cons_zero, List.getElem_cons_succ]
    refine wpAnyH_take (i := 11) (v := ?v11) rfl (by kernel_rfl) (by kernel_rfl) (by kernel_rfl) (fun _ _ _ h => h) (Or.inl ⟨by rfl, ?y11⟩) (by assumption) ?r11
    case y11 => (intro w hSw; (try dsimp only at hSw); (try simp only [List.getElem_toArray, List.getElem_cons_zero, List.getElem_cons_succ]); go_simp; try with_reducible rfl)
    case r11 =>
    try simp only [Act.put, List.setIfInBounds_toArray, List.set_cons_zero, List.set_cons_succ, List.getElem_toArray, List.getElem_cons_zero, List.getElem_cons_succ]
    refine wpAnyH_take (i := 12) (v := ?v12) rfl (by kernel_rfl) (by kernel_rfl) (by kernel_rfl) (fun _ _ _ h => h) (Or.inl ⟨by rfl, ?y12⟩) (by assumption) ?r12
    case y12 => (intro w hSw; (try dsimp only at hSw); (try simp only [List.getElem_toArray, List.getElem_cons_zero, List.getElem_cons_succ]); go_simp; try with_reducible rfl)
    case r12 =>
    try simp only [Act.put, List.setIfInBounds_toArray, List.set_cons_zero, List.set_cons_succ, List.getElem_toArray, List.getElem_cons_zero, List.getElem_cons_succ]
    refine wpAnyH_take (i := 13) (v := ?v13) rfl (by kernel_rfl) (by kernel_rfl) (by kernel_rfl) (fun _ _ _ h => h) (Or.inl ⟨by rfl, ?y13⟩) (by assumption) ?r13
    case y13 => (intro w hSw; (try dsimp only at hSw); (try simp only [List.getElem_toArray, List.getElem_cons_zero, List.getElem_cons_succ]); go_simp; try with_reducible rfl)
    case r13 =>
    try simp only [Act.put, List.setIfInBounds_toArray, List.set_cons_zero, List.set_cons_succ, List.getElem_toArray, List.getElem_cons_zero, List.getElem_cons_succ]
    refine wpAnyH_done (by kernel_rfl) ?_ _
    go_wp2
    go_ret
    exact ⟨rfl, hT9⟩


set_option maxHeartbeats 800000 in
set_option maxRecDepth 100000 in
theorem texts_long (a : Option Addr) (l c : Nat) (aq : Option Addr) (lq cq : Nat) (most : Int) (w : World) (hl : 8 < l) :
    Calls Try.prog 4 #[.slice a l c, .slice aq lq cq, .int .u8 most] w (TrueNew w) := by
  have hd : decide ((8 : Int) < (l : Int)) = true := by simp; omega
  go_enter Try.func4, Try.ntmps4
  go_wp2_with fail
  refine (awake_true _).mono ?_
  rintro r w1 ⟨rfl, t1⟩
  go_wp2_with fail
  refine (awake_true _).mono ?_
  rintro r w2 ⟨rfl, t2⟩
  go_wp2
  go_ret
  exact ⟨rfl, t1.trans t2 (fun _ _ => id)⟩

set_option maxHeartbeats 800000 in
set_option maxRecDepth 100000 in
theorem texts_wide (a : Option Addr) (l c : Nat) (aq : Option Addr) (lq cq : Nat) (most : Int) (w : World) (hl : l ≤ 8) (hq : 50 < lq) :
    Calls Try.prog 4 #[.slice a l c, .slice aq lq cq, .int .u8 most] w (TrueNew w) := by
  have hd : decide ((8 : Int) < (l : Int)) = false := by simp; omega
  have hd2 : decide ((50 : Int) < (lq : Int)) = true := by simp; omega
  go_enter Try.func4, Try.ntmps4
  go_wp2_with fail
  refine (awake_true _).mono ?_
  rintro r w1 ⟨rfl, t1⟩
  go_wp2_with fail
  refine (awake_true _).mono ?_
  rintro r w2 ⟨rfl, t2⟩
  go_wp2
  go_ret
  exact ⟨rfl, t1.trans t2 (fun _ _ => id)⟩
end Go.Proofs.Ytimajdbgeibalaa
