/- Own: the walk of DiskTwins. -/
import Derived.Test.YtckeackepolhdaaSafe
namespace Go.Proofs.Ytckeackepolhdaa
open Go.RowKit
set_option linter.unusedVariables false
set_option linter.unusedSimpArgs false

def twD (xs : List Int) : DiskM := ({ newM 2 with wet := (newM 2).wet ++ [(1, pad64 xs)] } : DiskM).act
theorem tw1 (xs : List Int) : (twD xs).last 1 = pad64 xs := rfl
theorem tw0 (xs : List Int) : (twD xs).last 0 = noughts := rfl
theorem pad_reads {w : World} {B : Nat} {xs : List Int} (h : w.rangeAt B 0 (secV (pad64 xs))) (h64 : xs.length ≤ 64) : Reads w (.slice (some ⟨B, 0, none⟩) xs.length 64) xs := by
  refine .inr ⟨B, 0, 64, rfl, h64, fun i hi => ?_⟩
  refine h i _ ?_
  unfold secV pad64
  rw [List.map_append, List.getElem?_append_left (by simpa using hi)]
  simp [List.getD, hi]

set_option maxHeartbeats 8000000 in
set_option maxRecDepth 100000 in
theorem twins_walk (v0 v1 : Value) (xs ms : List Int) (w : World) (hv0 : Src w v0 xs) (hv1 : Src w v1 ms) (hx : BytesOk xs) (hm : BytesOk ms) (hml : ms.length ≤ maxLen) (ho : Old w v1 ms)
    (h64 : xs.length ≤ 64) (h0 : ¬ xs.length = 0) : Calls Try.prog 4 #[v0, v1] w (AwakePost w) := by
  obtain ⟨i0, hi, hz0, hz1, hz2⟩ := info_parts Try.info5
  have HV0 := Lib.hid hv0
  have HV1 := Lib.hid hv1
  have HX := Lib.hid hx
  have HM := Lib.hid hm
  have HO := Lib.hid ho
  obtain ⟨a0, c0, rfl, q0⟩ := src_any hv0
  obtain ⟨a1, c1, rfl, _⟩ := src_any hv1
  obtain ⟨_, g0, o0, rfl, _⟩ := q0 (by omega)
  clear hv0 hv1 hx hm ho q0
  have g1 : decide ((64 : Int) < (xs.length : Int)) = false := by simp; omega
  have g3 : ((xs.length : Int) == 0) = false := by rw [beq_eq_false_iff_ne]; omega
  go_enter Try.func4, Try.ntmps4
  go_wp2_with fail
  refine (awake_any w).mono ?_
  rintro e w1 ⟨rfl, t1⟩
  go_wp2_with fail
  refine (new_any 2 w1 2 rfl).mono ?_
  rintro e w2 ⟨F2, D, S2, sc2, rfl, hd2, hF2, t2⟩
  have T2 := t1.trans t2 (fun _ _ => id)
  have HD2 := Lib.hid hd2.small
  have hlt2 := hd2.foot_lt
  have hge2 : ∀ k, Foot D S2 (.slice none 0 0) k → w.heap.size ≤ k := fun k hk => Nat.le_trans t1.size (hF2 k (hd2.foot_in k hk))
  have HN2 := Lib.hid (fun (j : Nat) u (hj : (xs.map (Value.int .u8))[j]? = some u) => (show w2.cell? ((⟨g0, o0, none⟩ : Addr).add j) = some u by
    have hjl : j < xs.length := by have := (List.getElem?_eq_some_iff.1 hj).1; simpa using this
    rcases (HV0.out.turn T2 (fun _ _ => id)) with (⟨h, _⟩ | ⟨g, o, cap, h, hc, hcell⟩) | ⟨_, _, h, h'⟩
    · cases h
    · cases h
      rw [Addr.add_mid, hcell j hjl]
      simp [hjl] at hj; subst hj; simp [List.getD, hjl]
    · rw [h'] at hjl; simp at hjl))
  clear hd2 hF2 t1 t2
  go_wp2_with (at_builtin; refine wpList_append_where _ rfl (.const (.slice none 0 0)) (.tmp 28) 27 rfl w2.heap.size 5 i0 (.int .u8 0) 1 1 Try.underlying27 hi hz0 hz1 hz2 rfl (by decide) _ 0 [] rfl (World.ownsRow_nil _ _ _ _) ⟨g0, o0, none⟩ xs.length c0 (xs.map (Value.int .u8)) rfl (by simp) HN2.out (ints_oneCell _ _) ?d3 ?d4 (Nat.le_refl _) ?_)
  case d3 => unfold maxLen; omega
  case d4 => omega
  intro v3 w3 ho3 hg3 _ hiff
  have t3 : Turn (fun _ => False) w2 w3 := (Turn.refl (fun _ => False) w2).grown hg3 (fun k h hk => by simp [Value.ownBlock] at h)
  have T3 := T2.trans t3 (fun _ _ => id)
  try simp only [Nat.zero_add, List.nil_append] at ho3
  obtain ⟨g, cq, rfl, hgge, hglt⟩ : ∃ g c, v3 = .slice (some ⟨g, 0, none⟩) xs.length c ∧ w2.heap.size ≤ g ∧ g < w3.heap.size := by
    rcases ho3.2 with ⟨h, h'⟩ | ⟨g, cap, cur, h, hb, hg, _⟩
    · exact absurd h' h0
    · exact ⟨g, cap, h, hb, (Array.getElem?_eq_some_iff.1 hg).1⟩
  have hR3 : Reads w3 (.slice (some ⟨g, 0, none⟩) xs.length cq) xs := Reads.of_owns (base := w2.heap.size) ho3
  have hcapq : xs.length ≤ cq := by
    rcases ho3.2 with ⟨h, h'⟩ | ⟨g', cap, cur, h, hb, hg, hnc, _⟩
    · cases h
    · injection h with _ _ e3; omega
  have hfq : ∀ i, w3.frozen? ⟨g, i, none⟩ = false := fun i => by
    rcases ho3.2 with ⟨h, h'⟩ | ⟨g', cap, cur, h, hb, hg, hnc, _⟩
    · cases h
    · injection h with e1 _ _
      injection e1 with e1
      injection e1 with e1
      subst e1
      exact frozen_of_row w3 _ i cur 5 hg
  have HR3 := Lib.hid hR3
  have hc3 : w3.cell? ⟨g, 0, none⟩ = some (.int .u8 (xs.getD 0 0)) := by
    have := ho3.cellAt 0 (by omega)
    rw [this]; simp [List.getD, show 0 < xs.length by omega]
  clear hg3 hiff ho3 hR3
  go_wp2_with fail
  refine (write_good w3 _ D S2 sc2 _ (newM 2) 1 _ xs (HD2.out.turn t3 (fun _ _ => id)) (by decide) rfl (.inl HR3.out) HX.out h64 (by decide) (by decide) (by decide)).mono ?_
  rintro e w4 ⟨rfl, F4, S4, sc4, wv4, hd4, hgr4, t4⟩
  have hng : ¬ Foot D S2 (.slice none 0 0) g := fun h => by have := hlt2 g h; omega
  have hF4g : ¬ F4 g := fun h => by
    rcases hgr4.2 g h with h | h
    · exact hng h
    · omega
  have hF4ge : ∀ k, F4 k → w.heap.size ≤ k := fun k hk => by
    rcases hgr4.2 k hk with h | h
    · exact hge2 k h
    · have := T3.size; omega
  have T4 := T3.trans t4 (fun k hk h => by have := hge2 k h; omega)
  have hc4 := (t4.cell (p := ⟨g, 0, none⟩) hglt hng).trans hc3
  have hf4 := (t4.frozen (p := ⟨g, 0, none⟩) hglt hng).trans (hfq 0)
  have HD4 := Lib.hid hd4
  have hglt4 : g < w4.heap.size := Nat.lt_of_lt_of_le hglt t4.size
  have hpos : (0 : Int) < (xs.length : Int) := by omega
  have hgge0 : w.heap.size ≤ g := Nat.le_trans T2.size hgge
  clear hd4 t4 hgr4 hc3 hfq HR3 T3 t3
  generalize xs.getD 0 0 = x0 at hc4
  go_wp2_with fail
  have t5 : Turn (fun k => k = g) w4 (w4.setCell ⟨g, 0, none⟩ (.int .u8 ((x0 + 1) % 256))) := turn_cell w4 g 0 _
  generalize w4.setCell ⟨g, 0, none⟩ (.int .u8 ((x0 + 1) % 256)) = w5 at t5 ⊢
  have HD5 := Lib.hid ((HD4.out.turn t5 (fun k hk e => hF4g (e ▸ hk))).small)
  have hlt5 := HD5.out.foot_lt
  have hge5 : ∀ k, Foot D S4 wv4 k → w.heap.size ≤ k := fun k hk => hF4ge k (HD4.out.foot_in k hk)
  have T5 := T4.trans t5 (fun k hk h => by omega)
  clear hc4 hf4 t5 T4
  refine (twin_any w5 _ D S4 sc4 wv4 _ HD5.out (by show (1:Nat) ≤ 1000000000000; omega)).mono ?_
  rintro e w6 ⟨F6, C, S6, sc6, wv6, rfl, hc6, hF6, t6⟩
  have T6 := T5.trans t6 (fun _ _ => id)
  have HC6 := Lib.hid hc6
  have HD6 := Lib.hid (HD5.out.turn t6 (fun _ _ => id))
  have hz5 := T5.size
  have hz6 := t6.size
  clear hc6 T5 t6
  go_wp2_with fail
  refine (write_good w6 F6 C S6 sc6 wv6 _ 0 _ xs HC6.out (by show (0:Nat) < 2; omega) rfl (HV0.out.turn T6 (fun _ _ => id)) HX.out h64 (by show (1:Nat) ≤ 1000000000000; omega) (by show (1:Nat) < 4611686018427387904; omega) (by show (0:Nat) < 4611686018427387904; omega)).mono ?_
  rintro e w7 ⟨rfl, F7, S7, sc7, wv7, hc7, hgr7, t7⟩
  have hF7 : ∀ k, F7 k → w5.heap.size ≤ k := fun k hk => by
    rcases hgr7.2 k hk with h | h
    · exact hF6 k h
    · omega
  have T7 := T6.trans t7 (fun k hk h => by have := hF6 k h; omega)
  have HD7 := Lib.hid (HD6.out.turn t7 (fun k h1 h2 => by have := hlt5 k h1; have := hF6 k h2; omega))
  have HC7 := Lib.hid hc7
  clear hc7 hgr7 t7 T6
  go_wp2_with fail
  refine (crash_any w7 F7 C S7 sc7 wv7 _ _ ms HC7.out (HV1.out.turn T7 (fun _ _ => id)) (fun h1 k hk hFk => by have := HO.out h1 k hk; have := hF7 k hFk; omega) HM.out (by unfold maxLen at hml; exact hml) (by show (2:Nat) ≤ 1000000000000; omega)).mono ?_
  rintro e w8 ⟨rfl, hc8, t8⟩
  have T8 := T7.trans t8 (fun k hk h => by have := hF7 k h; omega)
  have HD8 := Lib.hid (HD7.out.turn t8 (fun k h1 h2 => by have := hlt5 k h1; have := hF7 k h2; omega))
  have hlt8 := HD8.out.foot_lt
  clear hc8 t8 T7 HC7 HC6 HD7 HD6
  go_wp2_with fail
  refine (read_good w8 _ D S4 sc4 _ _ 1 HD8.out (by show (1:Nat) < 2; omega) rfl (by show (1:Nat) ≤ 1000000000000; omega)).mono ?_
  rintro e w9 ⟨B, rfl, hB, hr9, hth9, t9⟩
  have hr9' : w9.rangeAt B 0 (secV (pad64 xs)) := hr9
  have T9 := T8.trans t9 (fun _ _ => id)
  have HD9 := Lib.hid (HD8.out.turn t9 (fun _ _ => id))
  have HRX := Lib.hid (pad_reads hr9' h64)
  have HRP := Lib.hid (HV0.out.turn T9 (fun _ _ => id))
  have hcB := range_first hr9' (by simp [pad64]; omega)
  have hfB := (hth9 0 (by omega)).2
  rw [Nat.zero_add] at hfB
  generalize (pad64 xs).getD 0 1 = y0 at hcB
  obtain ⟨st, hst⟩ : ∃ st, strOfNums xs = st := ⟨_, rfl⟩
  have HST := Lib.hid hst
  have hz8 := T8.size
  clear hr9 hr9' hth9 t9 hst T8
  obtain ⟨n, hn⟩ : ∃ n, xs.length = n := ⟨_, rfl⟩
  have HNN := Lib.hid hn
  rw [hn] at HRX HRP g3 g1 h64 hpos
  simp only [hn]
  have hc64 : (n : Int) ≤ 64 := by omega
  clear hn
  go_wp2_with fail
  refine wp_region_held_drew (S := fun w' => Turn (fun _ => False) w9 w') (by kernel_rfl) ((Turn.refl _ w9).drew) (fun hHeld => ?_)
  refine wpAnyH_take (i := 0) (v := .int .i64 0) rfl (by kernel_rfl) (by kernel_rfl) (by kernel_rfl) (fun _ _ _ h => h) (Or.inl ⟨by rfl, ?y0⟩) (by assumption) ?r0
  case y0 => (intro w hSw; (try dsimp only at hSw); (try simp only [List.getElem_toArray, List.getElem_cons_zero, List.getElem_cons_succ]); go_simp; try with_reducible rfl)
  case r0 =>
  try simp only [Act.put, List.setIfInBounds_toArray, List.set_cons_zero, List.set_cons_succ, List.getElem_toArray, List.getElem_cons_zero, List.getElem_cons_succ]
  refine wpAnyH_take (i := 1) (v := .bool false) rfl (by kernel_rfl) (by kernel_rfl) (by kernel_rfl) (fun _ _ _ h => h) (Or.inl ⟨by rfl, ?y1⟩) (by assumption) ?r1
  case y1 => (intro w hSw; (try dsimp only at hSw); (try simp only [List.getElem_toArray, List.getElem_cons_zero, List.getElem_cons_succ]); go_simp; try with_reducible rfl)
  case r1 =>
  try simp only [Act.put, List.setIfInBounds_toArray, List.set_cons_zero, List.set_cons_succ, List.getElem_toArray, List.getElem_cons_zero, List.getElem_cons_succ]
  refine wpAnyH_take (i := 2) (v := .bool false) rfl (by kernel_rfl) (by kernel_rfl) (by kernel_rfl) (fun _ _ _ h => h) (Or.inl ⟨by rfl, ?y2⟩) (by assumption) ?r2
  case y2 => (intro w hSw; (try dsimp only at hSw); (try simp only [List.getElem_toArray, List.getElem_cons_zero, List.getElem_cons_succ]); go_simp; try with_reducible rfl)
  case r2 =>
  try simp only [Act.put, List.setIfInBounds_toArray, List.set_cons_zero, List.set_cons_succ, List.getElem_toArray, List.getElem_cons_zero, List.getElem_cons_succ]
  refine wpAnyH_take (i := 3) (v := .slice (some ⟨B, 0, none⟩) 64 64) rfl (by kernel_rfl) (by kernel_rfl) (by kernel_rfl) (fun _ _ _ h => h) (Or.inl ⟨by rfl, ?y3⟩) (by assumption) ?r3
  case y3 => (intro w hSw; (try dsimp only at hSw); (try simp only [List.getElem_toArray, List.getElem_cons_zero, List.getElem_cons_succ]); go_simp; try with_reducible rfl)
  case r3 =>
  try simp only [Act.put, List.setIfInBounds_toArray, List.set_cons_zero, List.set_cons_succ, List.getElem_toArray, List.getElem_cons_zero, List.getElem_cons_succ]
  refine wpAnyH_take (i := 4) (v := .slice (some ⟨g0, o0, none⟩) n c0) rfl (by kernel_rfl) (by kernel_rfl) (by kernel_rfl) (fun _ _ _ h => h) (Or.inl ⟨by rfl, ?y4⟩) (by assumption) ?r4
  case y4 => (intro w hSw; (try dsimp only at hSw); (try simp only [List.getElem_toArray, List.getElem_cons_zero, List.getElem_cons_succ]); go_simp; try with_reducible rfl)
  case r4 =>
  try simp only [Act.put, List.setIfInBounds_toArray, List.set_cons_zero, List.set_cons_succ, List.getElem_toArray, List.getElem_cons_zero, List.getElem_cons_succ]
  refine wpAnyH_take (i := 5) (v := .int .i64 (n : Int)) rfl (by kernel_rfl) (by kernel_rfl) (by kernel_rfl) (fun _ _ _ h => h) (Or.inl ⟨by rfl, ?y5⟩) (by assumption) ?r5
  case y5 => (intro w hSw; (try dsimp only at hSw); (try simp only [List.getElem_toArray, List.getElem_cons_zero, List.getElem_cons_succ]); go_simp; try with_reducible rfl)
  case r5 =>
  try simp only [Act.put, List.setIfInBounds_toArray, List.set_cons_zero, List.set_cons_succ, List.getElem_toArray, List.getElem_cons_zero, List.getElem_cons_succ]
  refine wpAnyH_take (i := 6) (v := .slice (some ⟨B, 0, none⟩) n 64) rfl (by kernel_rfl) (by kernel_rfl) (by kernel_rfl) (fun _ _ _ h => h) (Or.inl ⟨by rfl, ?y6⟩) (by assumption) ?r6
  case y6 => (intro w hSw; (try dsimp only at hSw); (try simp only [List.getElem_toArray, List.getElem_cons_zero, List.getElem_cons_succ]); go_simp; try with_reducible rfl)
  case r6 =>
  try simp only [Act.put, List.setIfInBounds_toArray, List.set_cons_zero, List.set_cons_succ, List.getElem_toArray, List.getElem_cons_zero, List.getElem_cons_succ]
  refine wpAnyH_take (i := 7) (v := .string st) rfl (by kernel_rfl) (by kernel_rfl) (by kernel_rfl) (fun _ _ _ h => h) (Or.inl ⟨by rfl, ?y7⟩) (by assumption) ?r7
  case y7 => (intro wq hSw; exact exec_convert _ _ 27 9 (.tmp 57) rfl _ _ _ rfl (by rw [← HST.out]; exact (HRX.out.turn hSw (fun _ _ => id)).conv))
  case r7 =>
  try simp only [Act.put, List.setIfInBounds_toArray, List.set_cons_zero, List.set_cons_succ, List.getElem_toArray, List.getElem_cons_zero, List.getElem_cons_succ]
  refine wpAnyH_take (i := 8) (v := .slice (some ⟨g0, o0, none⟩) n c0) rfl (by kernel_rfl) (by kernel_rfl) (by kernel_rfl) (fun _ _ _ h => h) (Or.inl ⟨by rfl, ?y8⟩) (by assumption) ?r8
  case y8 => (intro w hSw; (try dsimp only at hSw); (try simp only [List.getElem_toArray, List.getElem_cons_zero, List.getElem_cons_succ]); go_simp; try with_reducible rfl)
  case r8 =>
  try simp only [Act.put, List.setIfInBounds_toArray, List.set_cons_zero, List.set_cons_succ, List.getElem_toArray, List.getElem_cons_zero, List.getElem_cons_succ]
  refine wpAnyH_take (i := 9) (v := .string st) rfl (by kernel_rfl) (by kernel_rfl) (by kernel_rfl) (fun _ _ _ h => h) (Or.inl ⟨by rfl, ?y9⟩) (by assumption) ?r9
  case y9 => (intro wq hSw; exact exec_convert _ _ 27 9 (.tmp 59) rfl _ _ _ rfl (by rw [← HST.out]; exact (HRP.out.turn hSw (fun _ _ => id)).conv))
  case r9 =>
  try simp only [Act.put, List.setIfInBounds_toArray, List.set_cons_zero, List.set_cons_succ, List.getElem_toArray, List.getElem_cons_zero, List.getElem_cons_succ]
  refine wpAnyH_take (i := 10) (v := .bool false) rfl (by kernel_rfl) (by kernel_rfl) (by kernel_rfl) (fun _ _ _ h => h) (Or.inl ⟨by rfl, ?y10⟩) (by assumption) ?r10
  case y10 => (intro w hSw; (try dsimp only at hSw); (try simp only [List.getElem_toArray, List.getElem_cons_zero, List.getElem_cons_succ]); go_simp; try with_reducible rfl)
  case r10 =>
  try simp only [Act.put, List.setIfInBounds_toArray, List.set_cons_zero, List.set_cons_succ, List.getElem_toArray, List.getElem_cons_zero, List.getElem_cons_succ]
  refine wpAnyH_take (i := 11) (v := .bool false) rfl (by kernel_rfl) (by kernel_rfl) (by kernel_rfl) (fun _ _ _ h => h) (Or.inl ⟨by rfl, ?y11⟩) (by assumption) ?r11
  case y11 => (intro w hSw; (try dsimp only at hSw); (try simp only [List.getElem_toArray, List.getElem_cons_zero, List.getElem_cons_succ]); go_simp; try with_reducible rfl)
  case r11 =>
  try simp only [Act.put, List.setIfInBounds_toArray, List.set_cons_zero, List.set_cons_succ, List.getElem_toArray, List.getElem_cons_zero, List.getElem_cons_succ]
  refine wpAnyH_take (i := 12) (v := .bool false) rfl (by kernel_rfl) (by kernel_rfl) (by kernel_rfl) (fun _ _ _ h => h) (Or.inl ⟨by rfl, ?y12⟩) (by assumption) ?r12
  case y12 => (intro w hSw; (try dsimp only at hSw); (try simp only [List.getElem_toArray, List.getElem_cons_zero, List.getElem_cons_succ]); go_simp; try with_reducible rfl)
  case r12 =>
  try simp only [Act.put, List.setIfInBounds_toArray, List.set_cons_zero, List.set_cons_succ, List.getElem_toArray, List.getElem_cons_zero, List.getElem_cons_succ]
  refine wpAnyH_take (i := 13) (v := .pointer (some ⟨D, 0, none⟩)) rfl (by kernel_rfl) (by kernel_rfl) (by kernel_rfl) (fun _ _ _ h => h) (Or.inl ⟨by rfl, ?y13⟩) (by assumption) ?r13
  case y13 => (intro w hSw; (try dsimp only at hSw); (try simp only [List.getElem_toArray, List.getElem_cons_zero, List.getElem_cons_succ]); go_simp; try with_reducible rfl)
  case r13 =>
  try simp only [Act.put, List.setIfInBounds_toArray, List.set_cons_zero, List.set_cons_succ, List.getElem_toArray, List.getElem_cons_zero, List.getElem_cons_succ]
  refine wpAnyH_ready (rs := [14]) (by kernel_rfl) (by simp) ?_
  refine AllReadyH.cons rfl (fun K hK => ?_) AllReadyH.nil
  go_simp
  obtain ⟨wa, wc, hwv⟩ := wet_form HD9.out.wet
  refine (wet_any D 1 wc wa _ w9.drew ((HD9.out.turn hHeld (fun _ _ => id)).head) hwv).mono ?_
  rintro e w10 ⟨rfl, rfl⟩
  refine hK.out _ _ hHeld (fun _ => ?_)
  clear hK K
  try simp only [Act.put, List.setIfInBounds_toArray, List.set_cons_zero, List.set_cons_succ, List.getElem_toArray, List.getElem_cons_zero, List.getElem_cons_succ]
  refine wpAnyH_take (i := 15) (v := .bool false) rfl (by kernel_rfl) (by kernel_rfl) (by kernel_rfl) (fun _ _ _ h => h) (Or.inl ⟨by rfl, ?y15⟩) (by assumption) ?r15
  case y15 => (intro w hSw; (try dsimp only at hSw); (try simp only [List.getElem_toArray, List.getElem_cons_zero, List.getElem_cons_succ]); go_simp; try with_reducible rfl)
  case r15 =>
  try simp only [Act.put, List.setIfInBounds_toArray, List.set_cons_zero, List.set_cons_succ, List.getElem_toArray, List.getElem_cons_zero, List.getElem_cons_succ]
  refine wpAnyH_take (i := 16) (v := .bool false) rfl (by kernel_rfl) (by kernel_rfl) (by kernel_rfl) (fun _ _ _ h => h) (Or.inl ⟨by rfl, ?y16⟩) (by assumption) ?r16
  case y16 => (intro w hSw; (try dsimp only at hSw); (try simp only [List.getElem_toArray, List.getElem_cons_zero, List.getElem_cons_succ]); go_simp; try with_reducible rfl)
  case r16 =>
  try simp only [Act.put, List.setIfInBounds_toArray, List.set_cons_zero, List.set_cons_succ, List.getElem_toArray, List.getElem_cons_zero, List.getElem_cons_succ]
  refine wpAnyH_done (by kernel_rfl) ?_ _
  have HD10 := Lib.hid (HD9.out.turn hHeld (fun _ _ => id))
  have T10 := T9.trans hHeld (fun _ _ => id)
  have hcB2 := (hHeld.cell (p := ⟨B, 0, none⟩) (World.block_lt_of_cell? w9 _ hcB) id).trans hcB
  have hfB2 := (hHeld.frozen (p := ⟨B, 0, none⟩) (World.block_lt_of_cell? w9 _ hcB) id).trans hfB
  have hBge : w.heap.size ≤ B := by omega
  generalize w9.drew = w10 at HD10 T10 hcB2 hfB2 ⊢
  clear hcB hfB hHeld T9
  go_wp2_with fail
  have t11 : Turn (fun k => k = B) w10 (w10.setCell ⟨B, 0, none⟩ (.int .u8 ((y0 + 1) % 256))) := turn_cell w10 B 0 _
  generalize w10.setCell ⟨B, 0, none⟩ (.int .u8 ((y0 + 1) % 256)) = w11 at t11 ⊢
  have HD11 := Lib.hid (HD10.out.turn t11 (fun k hk e => by have := hlt8 k hk; omega))
  have T11 := T10.trans t11 (fun k hk h => by omega)
  clear hcB2 hfB2 t11 T10
  refine (read_good w11 _ D S4 sc4 _ _ 1 HD11.out (by show (1:Nat) < 2; omega) rfl (by show (1:Nat) ≤ 1000000000000; omega)).mono ?_
  rintro e w12 ⟨B2, rfl, hB2, hr12, hth12, t12⟩
  have hr12' : w12.rangeAt B2 0 (secV (pad64 xs)) := hr12
  have T12 := T11.trans t12 (fun _ _ => id)
  have HD12 := Lib.hid (HD11.out.turn t12 (fun _ _ => id))
  clear hr12 hth12 t12 T11
  go_wp2_with fail
  refine (read_good w12 _ D S4 sc4 _ _ 0 HD12.out (by show (0:Nat) < 2; omega) rfl (by show (1:Nat) ≤ 1000000000000; omega)).mono ?_
  rintro e w13 ⟨B3, rfl, hB3, hr13, hth13, t13⟩
  have T13 := T12.trans t13 (fun _ _ => id)
  have hr13' : w13.rangeAt B3 0 (secV noughts) := hr13
  have hy := range_first hr13' noughts_len
  have hy0 : w13.cell? ⟨B3, 0, none⟩ = some (.int .u8 0) := hy
  have hR1 := (pad_reads (rangeAt_turn hr12' t13 id) (by rw [HNN.out]; exact h64)).turn ((Turn.refl (fun _ => False) w13).drew) (fun _ _ => id)
  have hR2 := (HV0.out.turn T13 (fun _ _ => id)).turn ((Turn.refl (fun _ => False) w13).drew) (fun _ _ => id)
  rw [HNN.out] at hR1 hR2
  have k1 := hR1.conv
  have k2 := hR2.conv
  rw [HST.out] at k1 k2
  clear hr12' hr13 hth13 t13 T12 hr13' hy hR1 hR2
  go_wp2_with fail
  go_region
  go_wp2_with fail
  go_ret
  exact ⟨by simp, T13.drew⟩

set_option maxHeartbeats 1600000 in
theorem diskTwins_walk (v0 v1 : Value) (xs ms : List Int) (w : World) (hv0 : Src w v0 xs) (hv1 : Src w v1 ms) (hx : BytesOk xs) (hm : BytesOk ms) (m0 : xs.length ≤ maxLen) (hml : ms.length ≤ maxLen)
    (n0 : ∀ k, v0.ownBlock = some k → 0 < xs.length → k < w.heap.size) (ho : ∀ k, v1.ownBlock = some k → 0 < ms.length → k < w.heap.size) : Calls Try.prog 4 #[v0, v1] w (AwakePost w) := by
  by_cases hgood : xs.length ≤ 64 ∧ ¬ xs.length = 0
  · exact twins_walk v0 v1 xs ms w hv0 hv1 hx hm hml (fun h k hk => ho k hk h) hgood.1 hgood.2
  · obtain ⟨a0, c0, rfl, _⟩ := src_any hv0
    obtain ⟨a1, c1, rfl, _⟩ := src_any hv1
    clear hv0 hv1 hx hm n0 ho
    generalize xs.length = n at *
    rcases (show n = 0 ∨ (¬ n = 0 ∧ 64 < n) by omega) with h | ⟨h1, h⟩
    · have d3 : ((n : Int) == 0) = true := by rw [beq_iff_eq]; omega
      clear hgood h
      go_enter Try.func4, Try.ntmps4
      go_wp2_with fail
      refine (awake_any w).mono ?_
      rintro e w1 ⟨rfl, t1⟩
      go_wp2_with fail
      refine (awake_any w1).mono ?_
      rintro e w2 ⟨rfl, t2⟩
      go_wp2_with fail
      go_ret
      exact ⟨rfl, t1.trans t2 (fun _ _ => id)⟩
    · have d3 : ((n : Int) == 0) = false := by rw [beq_eq_false_iff_ne]; omega
      have d1 : decide ((64 : Int) < (n : Int)) = true := by simp; omega
      clear hgood h1
      go_enter Try.func4, Try.ntmps4
      go_wp2_with fail
      refine (awake_any w).mono ?_
      rintro e w1 ⟨rfl, t1⟩
      go_wp2_with fail
      refine (awake_any w1).mono ?_
      rintro e w2 ⟨rfl, t2⟩
      go_wp2_with fail
      go_ret
      exact ⟨rfl, t1.trans t2 (fun _ _ => id)⟩
end Go.Proofs.Ytckeackepolhdaa
