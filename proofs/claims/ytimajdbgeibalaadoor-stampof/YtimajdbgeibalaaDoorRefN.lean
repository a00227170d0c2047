/- Own: the reference's sum of nothing. No statement is proved here. -/
import Derived.Test.YtimajdbgeibalaaDoorRefS
import Derived.Test.YtimajdbgeibalaaDoorStrs
namespace Go.Proofs.YtimajdbgeibalaaDoor
open Go.RowKit
set_option linter.unusedVariables false
set_option linter.unusedSimpArgs false
def Stop (p : Prop) : Prop := p
theorem stop_here {p : Prop} (h : Stop p) : p := h

set_option maxHeartbeats 8000000 in
set_option maxRecDepth 1000000 in
theorem ref_none (l : Nat) (ps : List Int) (w : World) (hL : ps.length = l) (hl0 : l = 0) (hps : ∀ x ∈ ps, 0 ≤ x ∧ x < 256) :
    Calls Tryd.prog 11 #[.slice none 0 0] w (KeyPost w (keyB (shaE firstE rootsL ps) 8)) := by
  obtain ⟨i0, hi, hz0, hz1, hz2⟩ := info_parts Tryd.info5
  have HPS := Lib.hid hps
  have HLL := Lib.hid hL
  have hl : l ≤ 300 := by omega
  have HL0 := Lib.hid hl0
  clear hL hps hl0
  go_enter Tryd.func11, Tryd.ntmps11
  go_wp2_with (at_builtin; generalize hW : World.alloc (World.alloc (World.alloc w _) _) _ = W; obtain ⟨q1, q2, q3, q4, q5⟩ := ref_start w W hW; clear hW; refine wpList_exec_want rfl (.slice none 0 0) W (exec_append _ _ (.const (.slice none 0 0)) (.tmp 33) 22 rfl _ _ _ _ _ rfl rfl (run_append_nils W)) ?_; refine stop_here ?_)
  unfold Stop
  have t1 : Turn (fun _ => False) W W := Turn.refl _ W
  have hp0 : ps = [] := List.eq_nil_of_length_eq_zero (by have := HLL.out; have := HL0.out; omega)
  have ho1 : W.ownsRow W.heap.size 5 1 (.slice none 0 0) l (ps.map (Value.int .u8)) := by rw [HL0.out, hp0]; exact World.ownsRow_nil _ _ _ _
  clear hp0
  have hs1 := t1.size
  have ho1b : W.ownsRow (w.heap.size + 1 + 1 + 1) 5 1 (.slice none 0 0) l (ps.map (Value.int .u8)) := by first | exact ho1 | (rw [q5] at ho1; exact ho1)
  rw [q5] at hs1
  obtain ⟨b0, hb0⟩ : ∃ b, w.heap.size + 1 + 1 + 1 = b := ⟨_, rfl⟩
  rw [hb0] at ho1b hs1
  have HBW := Lib.hid hb0
  have hW0 : W.heap.size = b0 := by omega
  have HW0 := Lib.hid hW0
  have Q1 := Lib.hid q1
  have Q2 := Lib.hid q2
  have Q3 := Lib.hid q3
  have Q4 := Lib.hid q4
  have hbase : b0 ≤ W.heap.size := Nat.le_of_eq hW0.symm
  have TA := Lib.hid t1
  clear q1 q2 q3 q4 q5 hb0 ho1 hs1 hW0
  go_wp2_with (at_builtin; refine wpList_append_where _ rfl (.tmp 34) (.tmp 35) 22 rfl b0 5 i0 (.int .u8 0) 1 1 Tryd.underlying22 hi hz0 hz1 hz2 rfl (by decide) (.slice none 0 0) l (ps.map (Value.int .u8)) rfl (ho1b.alloc _) ⟨W.heap.size, 0, none⟩ 1 1 [.int .u8 128] rfl rfl (one_cell _ _) ?c2 ?c3 ?c4 ?c5 ?_)
  case c2 => intro u hu; simp at hu; subst hu; rfl
  case c3 => unfold maxLen; omega
  case c4 => omega
  case c5 => simp; omega
  intro v2 w2 ho2 hg2 _ _
  have t2 := (t1.alloc (.cells #[.int .u8 128] 5)).grown hg2 (fun k h hk => by have := (ho1b.lt k h).1; have := HW0.out; omega)
  have ho2' : w2.ownsRow b0 5 1 v2 (ps ++ [128]).length ((ps ++ [128]).map (Value.int .u8)) := by
    have e : (ps ++ [128]).length = l + 1 := by simp; exact HLL.out
    rw [e]; simpa using ho2
  clear ho1b ho2 hg2 t1 TA
  go_wp2_with fail
  go_loopw [5] (fun pv wr => ∃ (m q c : Nat) (a : Option Addr), m ≤ pads ps.length ∧ pv = .slice a q c ∧ q = ps.length + 1 + m ∧ wr.ownsRow b0 5 1 pv (ps ++ [128] ++ List.replicate m 0).length ((ps ++ [128] ++ List.replicate m 0).map (Value.int .u8)) ∧ Turn (fun _ => False) W wr) (fun pv _ => ps.length + 1 + pads ps.length - sliceLen pv)
  case atStart =>
    obtain ⟨a2, c2, hv2⟩ := own_slice ho2'
    exact ⟨0, _, _, _, by omega, hv2, by simp, by simpa using ho2', t2⟩
  case round =>
    clear ho2' t2
    obtain ⟨m, q, c', a, hm, rfl, hqq, ho, hT⟩ := hrel
    have hp64 : pads ps.length = (119 - ps.length % 64) % 64 := rfl
    have HLQ := Lib.hid hqq
    have HP := Lib.hid hp64
    have hpl : pads ps.length < 64 := by omega
    have hsz := hT.size
    rw [HW0.out] at hsz
    have hLq : (ps ++ [128] ++ List.replicate m 0).length = q := by simp; omega
    rw [hLq] at ho
    have HL := Lib.hid hLq
    have hlb := HLL.out
    by_cases hlt : m < pads ps.length
    · have hne : ((q : Int) % 64 != 56) = true := by rw [bne_iff_ne]; omega
      have hl2 : q ≤ 400 := by omega
      clear hqq hp64 hLq hlb
      go_wp2_with (at_builtin; refine wpList_append_where _ rfl (.tmp 41) (.tmp 42) 22 rfl b0 5 i0 (.int .u8 0) 1 1 Tryd.underlying22 hi hz0 hz1 hz2 rfl (by decide) _ q ((ps ++ [128] ++ List.replicate m 0).map (Value.int .u8)) rfl (ho.alloc _) ⟨wr.heap.size, 0, none⟩ 1 1 [.int .u8 0] rfl rfl (one_cell _ _) ?d2 ?d3 ?d4 ?d5 ?_)
      case d2 => intro u hu; simp at hu; subst hu; rfl
      case d3 => unfold maxLen; omega
      case d4 => omega
      case d5 => simp; omega
      intro v3 w3 ho3 hg3 _ _
      have t3 := (hT.alloc (.cells #[.int .u8 0] 5)).grown hg3 (fun k h hk => by have := (ho.lt k h).1; have := HW0.out; omega)
      obtain ⟨a3, c3, hv3⟩ := own_slice ho3
      subst hv3
      have HO3 := Lib.hid ho3
      clear ho hg3 ho3
      go_wp2
      go_roundw
      case rel =>
        refine ⟨m + 1, q + 1, c3, a3, by omega, rfl, by have := HLQ.out; omega, ?_, t3⟩
        have e1 : (ps ++ [128] ++ List.replicate (m + 1) 0).length = q + 1 := by have := HL.out; simp only [List.length_append, List.length_replicate, List.length_cons, List.length_nil] at this ⊢; omega
        rw [e1, List.replicate_succ']; simpa using HO3.out
      case measure => have := HLQ.out; simp [sliceLen]; omega
    · obtain rfl : m = pads ps.length := by omega
      have hne : ((q : Int) % 64 != 56) = false := by rw [bne_eq_false_iff_eq]; omega
      have hl3 : q ≤ 400 := by omega
      clear hqq hp64 hLq hlb
      obtain ⟨ys, hys⟩ : ∃ ys, ps ++ [128] ++ List.replicate (pads ps.length) 0 = ys := ⟨_, rfl⟩
      rw [hys] at ho
      have hyl : ys.length = q := by rw [← hys]; exact HL.out
      have HY := Lib.hid hys
      have HYL := Lib.hid hyl
      clear hys hyl
      go_wp2_with fail
      go_loopw [5, 7] (fun pv kv wr => ∃ (k q' c : Nat) (a : Option Addr), k ≤ 8 ∧ kv = .int .i64 (k : Int) ∧ pv = .slice a q' c ∧ q' = q + k ∧ wr.ownsRow b0 5 1 pv q' ((ys ++ lenB l k).map (Value.int .u8)) ∧ Turn (fun _ => False) W wr) (fun _ kv _ => (8 - intOf kv).toNat)
      case atStart => exact ⟨0, q, c', a, by omega, rfl, rfl, rfl, by simpa [lenB] using ho, hT⟩
      case round =>
        clear ho hT hsz
        obtain ⟨k, q', c2, a2, hk, rfl, rfl, hq', ho, hT⟩ := hrel
        have hsz := hT.size
        rw [HW0.out] at hsz
        have HQ' := Lib.hid hq'
        have hqb : q' ≤ 500 := by omega
        clear hq'
        by_cases hlt : k < 8
        · have hge : (0 : Int) ≤ 56 - 8 * (k : Int) := by omega
          have hgn : ((56 : Int) - 8 * (k : Int)).toNat = 56 - 8 * k := by omega
          have dk : decide ((k : Int) < 8) = true := by simp; omega
          go_wp2_with (at_builtin; refine wpList_append_where _ rfl (.tmp 52) (.tmp 59) 22 rfl b0 5 i0 (.int .u8 0) 1 1 Tryd.underlying22 hi hz0 hz1 hz2 rfl (by decide) _ q' ((ys ++ lenB l k).map (Value.int .u8)) rfl (ho.alloc _) ⟨wr.heap.size, 0, none⟩ 1 1 [.int .u8 0] rfl rfl (one_cell _ _) ?e2 ?e3 ?e4 ?e5 ?_)
          case e2 => intro u hu; simp at hu; subst hu; rfl
          case e3 => unfold maxLen; omega
          case e4 => omega
          case e5 => simp; omega
          intro v3 w3 ho3 hg3 _ _
          have t3 := (hT.alloc (.cells #[.int .u8 0] 5)).grown hg3 (fun k h hk => by have := (ho.lt k h).1; have := HW0.out; omega)
          obtain ⟨a3, c3, hv3⟩ := own_slice ho3
          subst hv3
          have HO3 := Lib.hid ho3
          clear ho hg3 ho3
          go_wp2
          go_roundw
          case rel =>
            refine ⟨k + 1, q' + 1, c3, a3, by omega, by go_num, rfl, by have := HQ'.out; omega, ?_, t3⟩
            have h3 := HO3.out
            rw [lenB_succ, HL0.out]
            rw [HL0.out] at h3
            simpa using h3
          case measure => simp [intOf]; omega
        · obtain rfl : k = 8 := by omega
          have hpad : padAll ps = ys ++ lenB l 8 := by rw [← HY.out, ← HLL.out]; rfl
          rw [← hpad] at ho
          have hplen := padAll_len ps
          have hq8 : q' = (padAll ps).length := by have := ho.1; simpa using this.symm
          obtain ⟨nb, hnb⟩ : ∃ nb, (padAll ps).length / 64 = nb := ⟨_, rfl⟩
          have hq64 : q' = 64 * nb := by have := HP.out; have := HLL.out; omega
          obtain ⟨g, cg, hv, hgb, hglt⟩ := own_some5 ho (by omega)
          cases hv
          have HO := Lib.hid ho
          have HT := Lib.hid hT
          have HNB := Lib.hid hnb
          have HQ8 := Lib.hid hq8
          have HQ64 := Lib.hid hq64
          have hnb1 : nb ≤ 1000 := by omega
          clear hpad ho hT hplen hq8 hnb hq64
          go_wp2_with fail
          have hB0 := HBW.out
          refine ref_outer (w.heap.size + 1) (w.heap.size + 1 + 1) g q' c2 nb rootsL (padAll ps) firstE _ _ _ _ _ _ _ _ _ _ _ _ _ _ _ _ _ _ _ _ _ _ _ _ _ _ _ _ _ _ _ _ _ _ _ _ _ _ _ _ _ _ _ _ _ _ _ _ _ _ _ _ _ _ _ _ _ _ _ _ _ _ _ _ _ _ _ _ _ _ _ _ _ _ _ _ _ _ _ _ _ _ _ _ _ _ _ _ _ _ _ _ _ _ _ _ _ _ _ _ _ _ _ _ _ _ _ _ _ _ _ _ _ _ _ _ _ _ _ _ _ _ _ _ _ _ _ _ _ _ _ _ _ _ _ _ _ _ _ _ _ _ _ _ _ _ _ _ _ _ _ _ _ _ _ _ _ _ _ _ _ _ _ _ _ _ _ _ _ _ _ _ _ _ _ _ _ _ _ _ _ _ _ _ _ _ _ _ _ _ _ _ _ _ _ _ _ _ _ _ _ _ _ _ _ _ _ _ _ _ _ _ _ _ _ _ _ _ _ _ _ _ _ _ _ _ _ _ _ _ _ _ _ _ _ _ _ _ _ _ _ _ _ _ _ _ _ _ _ _ _ _ _ _ _ _ _ _ _ _ _ _ _ _ _ _ _ _ _ _ _ _ _ _ _ _ _ _ _ _ wr _ (fun _ _ d _ _ h => by cases d <;> exact h) (by decide) (Q2.out.turn HT.out id) (Q3.out.turn HT.out id) (byts_pad HPS.out) (fun i hi => own_cell5 HO.out i hi) hglt (by omega) (by omega) HQ64.out hnb1 (by decide) ?_
          intro _ _ _ _ _ _ _ _ _ _ _ _ _ _ _ _ _ _ _ _ _ _ _ _ _ _ _ _ _ _ _ _ _ _ _ _ _ _ _ _ _ _ _ _ _ _ _ _ _ _ _ _ _ _ _ _ _ _ _ _ _ _ _ _ _ _ _ _ _ _ _ _ _ _ _ _ _ _ _ _ _ _ _ _ _ _ _ _ _ _ _ _ _ _ _ _ _ _ _ _ _ _ _ _ _ _ _ _ _ _ _ _ _ _ _ _ _ _ _ _ _ _ _ _ _ _ _ _ _ _ _ _ _ _ _ _ _ _ _ _ _ _ _ _ _ _ _ _ _ _ _ _ _ _ _ _ _ _ _ _ _ _ _ _ _ _ _ _ _ _ _ _ _ _ _ _ _ _ _ _ _ _ _ _ _ _ _ _ _ _ _ _ _ _ _ _ _ _ _ _ _ _ _ _ _ _ _ _ _ _ _ _ _ _ _ _ _ _ _ _ _ _ _ _ _ _ w5 hW5 t5
          have HW5 := Lib.hid hW5
          have T5 := Lib.hid t5
          clear hW5 t5
          go_wp2_with fail
          obtain ⟨w6, hw6⟩ : ∃ w6, w5.alloc (.cells ((List.replicate 32 (0 : Int)).map (Value.int .u8)).toArray 24) = w6 := ⟨_, rfl⟩
          have O6 : BytesAt w6 w5.heap.size 24 (List.replicate 32 0) := by rw [← hw6]; exact heap_alloc_new w5 _
          have t6 : Turn (fun _ => False) w5 w6 := by rw [← hw6]; exact (Turn.refl _ w5).alloc _
          have hH5 := HW5.out.lt
          have hz1' := Q4.out.size
          have hz2' := HT.out.size
          have hz3' := T5.out.size
          change Code.wp _ _ _ _ (w5.alloc (.cells ((List.replicate 32 (0 : Int)).map (Value.int .u8)).toArray 24))
          rw [hw6]
          refine ref_key (w.heap.size + 1 + 1) w5.heap.size (stirN rootsL firstE (padAll ps) nb) (eightL (stirN rootsL firstE (padAll ps) nb)) _ _ _ _ _ _ _ _ _ _ _ _ _ _ _ _ _ _ _ _ _ _ _ _ _ _ _ _ _ _ _ _ _ _ _ _ _ _ _ _ _ _ _ _ _ _ _ _ _ _ _ _ _ _ _ _ _ _ _ _ _ _ _ _ _ _ _ _ _ _ _ _ _ _ _ _ _ _ _ _ _ _ _ _ _ _ _ _ _ _ _ _ _ _ _ _ _ _ _ _ _ _ _ _ _ _ _ _ _ _ _ _ _ _ _ _ _ _ _ _ _ _ _ _ _ _ _ _ _ _ _ _ _ _ _ _ _ _ _ _ _ _ _ _ _ _ _ _ _ _ _ _ _ _ _ _ _ _ _ _ _ _ _ _ _ _ _ _ _ _ _ _ _ _ _ _ _ _ _ _ _ _ _ _ _ _ _ _ _ _ _ _ _ _ _ _ _ _ _ _ _ _ _ _ _ _ _ _ _ _ _ _ _ _ _ _ _ _ _ _ _ _ _ _ _ _ _ _ _ _ _ _ _ _ _ _ _ _ _ _ _ _ _ _ _ _ _ _ _ _ _ _ _ _ _ _ _ _ _ _ _ _ _ _ _ _ _ _ _ _ _ _ _ _ _ _ _ _ _ _ _ w6 _ (HW5.out.turn t6 id) rfl (eight_get _) O6 (by omega) ?_
          intro _ _ _ _ _ _ _ _ _ _ _ _ _ _ _ _ _ _ w7 hB7 t7
          have hw0 : w.heap.size < W.heap.size := Q1.out.lt
          have T7 : Turn (fun _ => False) w w7 := (((Q4.out.trans HT.out (fun _ _ => id)).trans T5.out (fun q hq h => by omega)).trans t6 (fun _ _ => id)).trans t7 (fun q hq h => by omega)
          have R7 : BytesAt w7 w.heap.size 24 (List.replicate 32 0) := (((Q1.out.turn HT.out id).turn T5.out (by omega)).turn t6 id).turn t7 (by omega)
          have hkk : keyB (stirN rootsL firstE (padAll ps) nb) 8 = keyB (shaE firstE rootsL ps) 8 := by rw [← HNB.out, sha_pad]
          rw [hkk] at hB7
          have hkl := keyB_len (shaE firstE rootsL ps) 8
          obtain ⟨kb, hkb⟩ : ∃ kb, keyB (shaE firstE rootsL ps) 8 = kb := ⟨_, rfl⟩
          rw [hkb] at hB7 hkl
          have HKB := Lib.hid hkb
          have hi24 : (Tryd.prog.info? 24).map (·.size) = some (kb.map (Value.int .u8)).toArray.size := by rw [size24]; simp [hkl]
          have hth : w7.there w.heap.size 0 (kb.map (Value.int .u8)).toArray.size := by
            have := R7.there
            simpa [hkl] using this
          have h1c : (kb.map (Value.int .u8)).toArray.all (·.oneCell') = true := all_oneCell_toArray (ints_oneCell _ _)
          have hW2 : w7.heap[w5.heap.size]? = some (.cells (kb.map (Value.int .u8)).toArray 24 (0, 0)) := hB7
          have HT7 := Lib.hid T7
          clear hkk hkb hB7 R7 T7 t7 t6 O6 hw6 hkl hz1' hz2' hz3' hH5 HW5 T5
          go_wp2_with (first | (refine wpList_load_row rfl 24 _ rfl (w5.heap.size) rfl 24 _ (0, 0) _ hW2 Tryd.underlying24 rfl hi24 ?_) | (with_reducible refine wpList_store_mid rfl 24 _ _ rfl (w.heap.size) 0 _ rfl rfl hth hi24 h1c ?_))
          have hrg := World.rangeAt_setCells_same w7 w.heap.size 0 (kb.map (Value.int .u8)) (by simpa using hth)
          refine bodyPost_ret (v := .agg (kb.map (Value.int .u8)).toArray) (results_cell_mid Tryd.results11 _ _ w.heap.size _ _ rfl hrg Tryd.underlying24 rfl (by simpa using hi24)) rfl ⟨by rw [HKB.out], ?_⟩
          exact HT7.out.trans (T := fun q => q = w.heap.size) (turn_setCells _ _ _ _) (fun q hq h => by omega)
end Go.Proofs.YtimajdbgeibalaaDoor
