/- Own: the walk of DiskSafe. -/
import Derived.Test.YtckeackepolhdaaArms
namespace Go.Proofs.Ytckeackepolhdaa
open Go.RowKit
set_option linter.unusedVariables false
set_option linter.unusedSimpArgs false

theorem exec_convert {P : Program} (ev : Operand → Value) (op : Oper) (t u : TypeId) (x : Operand) (ho : op.op = .convert t u x) (a v : Value) (w : World) (hx : ev x = a)
    (h : (convert t u a).run P w = .ok v w) : (execOp ev op).run P w = .ok (.value v) w := by
  unfold execOp
  simp only [ho, hx, Sem.run_bind, Sem.run_pure, Result.andThen_ok, h]
/-- The writes behind it are to other sectors. -/
theorem keep_other (safe : List (List Int)) (wet : List (Nat × List Int)) (f : Nat → Bool) (i : Nat) (h : ∀ x ∈ wet, x.1 ≠ i) : ∀ j, j ≤ wet.length → (keepK safe wet f j).getD i [] = safe.getD i [] := by
  intro j
  induction j with
  | zero => intro _; rfl
  | succ j ih =>
    intro hj
    have h1 := ih (by omega)
    rw [keepK]
    split
    · have hm : wet.getD j (0, []) ∈ wet := by simp [List.getD, show j < wet.length by omega]
      rw [List.getD_eq_getElem?_getD, List.getElem?_set_ne (h _ hm), ← List.getD_eq_getElem?_getD, h1]
    · exact h1
/-- Sector 0 is s, and no write that isn't safe is to it. -/
structure Keeps (d : DiskM) (s : List Int) : Prop where
  safe : d.safe.getD 0 [] = s
  wet : ∀ x ∈ d.wet, x.1 ≠ 0
theorem Keeps.act {d : DiskM} {s : List Int} (h : Keeps d s) : Keeps d.act s := ⟨by rw [(DiskM.act_same d).1]; exact h.safe, by rw [(DiskM.act_same d).2.1]; exact h.wet⟩
theorem Keeps.put {d : DiskM} {s : List Int} (h : Keeps d s) (x : Nat × List Int) (hx : x.1 ≠ 0) : Keeps { d with wet := d.wet ++ [x] } s := ⟨h.safe, fun y hy => by
  rcases List.mem_append.1 hy with hy | hy
  · exact h.wet y hy
  · obtain rfl : y = x := by simpa using hy
    exact hx⟩
theorem Keeps.arm {d : DiskM} {s : List Int} (h : Keeps d s) (n : Int) : Keeps (d.armedBy n) s := ⟨h.safe, h.wet⟩
theorem Keeps.crash {d : DiskM} {s : List Int} (h : Keeps d s) (ms : List Int) : (d.crashed ms).last 0 = s := by
  have h1 : (d.crashed ms).last 0 = (keepK d.safe d.wet (maskB ms) d.wet.length).getD 0 [] := rfl
  rw [h1, keep_other _ _ _ _ h.wet _ (Nat.le_refl _)]; exact h.safe
theorem Keeps.flushed {d : DiskM} {s : List Int} (h1 : d.wet = [(0, s)]) (h2 : 0 < d.safe.length) : Keeps d.flushed s := by
  refine ⟨?_, fun x hx => (by cases hx)⟩
  have h3 : d.flushed.safe = d.safe.set 0 s := by
    unfold DiskM.flushed; simp only [h1]; rfl
  rw [h3, List.getD_eq_getElem?_getD, List.getElem?_set_self h2]; rfl

theorem Keeps.flush {d : DiskM} {s : List Int} (h : Keeps d s) : Keeps d.flush.1 s := by
  unfold DiskM.flush
  split
  · exact h
  · split
    · exact h.act
    · refine ⟨?_, fun x hx => (by cases hx)⟩
      have h1 : d.act.flushed.safe.getD 0 [] = (keepK d.act.safe d.act.wet (fun _ => true) d.act.wet.length).getD 0 [] := rfl
      show d.act.flushed.safe.getD 0 [] = s
      rw [h1, keep_other _ _ _ _ h.act.wet _ (Nat.le_refl _)]; exact h.act.safe
theorem act_left (d : DiskM) : d.act.left ≤ d.left := by
  unfold DiskM.act
  split
  · exact Nat.le_refl _
  · split
    · exact Nat.le_refl _
    · show d.left - 1 ≤ d.left; omega
theorem flush_same (d : DiskM) : d.flush.1.safe.length = d.safe.length ∧ d.flush.1.acts ≤ d.acts + 1 ∧ d.flush.1.left ≤ d.left ∧ d.flush.1.wet.length ≤ d.wet.length := by
  obtain ⟨s1, s2, s3, s4⟩ := DiskM.act_same d
  have s5 := act_left d
  unfold DiskM.flush
  split
  · exact ⟨rfl, Nat.le_succ _, Nat.le_refl _, Nat.le_refl _⟩
  · split
    · exact ⟨by rw [s1], by rw [s3]; omega, s5, by rw [s2]; omega⟩
    · refine ⟨?_, ?_, ?_, ?_⟩
      · show (keepK d.act.safe d.act.wet (fun _ => true) d.act.wet.length).length = _
        rw [keepK_len, s1]
      · show d.act.acts ≤ _; omega
      · exact s5
      · exact Nat.zero_le _
def SafePre (w0 w : World) (D : Nat) (d : DiskM) (s : List Int) : Prop := Has w0 w D d ∧ Keeps d s

set_option maxHeartbeats 8000000 in
set_option maxRecDepth 100000 in
theorem safe_walk (v0 v1 v2 : Value) (xs ys ms : List Int) (ac : Int) (w : World) (hv0 : Src w v0 xs) (hv1 : Src w v1 ys) (hv2 : Src w v2 ms) (hx : BytesOk xs) (hy : BytesOk ys) (hm : BytesOk ms) (hml : ms.length ≤ maxLen) (ho : Old w v2 ms) (hac : 0 ≤ ac ∧ ac < 256)
    (h64 : xs.length ≤ 64) (h64b : ys.length ≤ 64) (h0 : ¬ xs.length = 0) : Calls Try.prog 6 #[v0, v1, v2, .int .u8 ac] w (AwakePost w) := by
  have HV0 := Lib.hid hv0
  have HV1 := Lib.hid hv1
  have HV2 := Lib.hid hv2
  have HX := Lib.hid hx
  have HY := Lib.hid hy
  have HM := Lib.hid hm
  have HO := Lib.hid ho
  obtain ⟨a0, c0, rfl, q0⟩ := src_any hv0
  obtain ⟨a1, c1, rfl, _⟩ := src_any hv1
  obtain ⟨a2, c2, rfl, _⟩ := src_any hv2
  clear hv0 hv1 hv2 hx hy hm ho q0
  have g1 : decide ((64 : Int) < (xs.length : Int)) = false := by simp; omega
  have g2 : decide ((64 : Int) < (ys.length : Int)) = false := by simp; omega
  have g3 : ((xs.length : Int) == 0) = false := by rw [beq_eq_false_iff_ne]; omega
  obtain ⟨k, hk⟩ : ∃ k : Nat, ac % 3 = (k : Int) := ⟨(ac % 3).toNat, by omega⟩
  have hk3 : k < 3 := by omega
  have hk2 : ac.tmod 3 = (k : Int) := by rw [Int.tmod_eq_emod_of_nonneg hac.1]; exact hk
  go_enter Try.func6, Try.ntmps6
  go_wp2_with fail
  refine (awake_any w).mono ?_
  rintro e w1 ⟨rfl, t1⟩
  go_wp2_with fail
  refine (new_has 3 w w1 3 rfl t1).mono ?_
  rintro e w2 ⟨D, rfl, h2⟩
  have H2 := Lib.hid h2
  clear h2
  go_wp2_with fail
  have hwe := (St.new 3).write_eq 0 xs (by omega) h64
  obtain ⟨hs3, he3⟩ := ((St.new 3).put (0, pad64 xs)).act_free
  refine (write_has w w2 D (newM 3) ((0 : Nat) : Int) _ xs H2.out ((St.new 3).fits (by omega) (by omega) (by omega)) (HV0.out.turn H2.out.turned (fun _ _ => id)) HX.out).mono ?_
  rintro e w3 ⟨rfl, h3⟩
  rw [hwe] at h3
  rw [hwe, he3]
  have H3 := Lib.hid h3
  have S3 := Lib.hid hs3
  have W3 := Lib.hid (show ({ newM 3 with wet := (newM 3).wet ++ [(0, pad64 xs)] } : DiskM).act.wet = [(0, pad64 xs)] from (DiskM.act_same _).2.1)
  clear h3 hs3 hwe he3
  generalize ({ newM 3 with wet := (newM 3).wet ++ [(0, pad64 xs)] } : DiskM).act = d3 at H3 S3 W3
  go_wp2_with fail
  refine (flush_has w w3 D d3 H3.out (S3.out.fits (by omega) (by omega) (by omega))).mono ?_
  rintro e w4 ⟨rfl, h4⟩
  obtain ⟨hs4, he4⟩ := S3.out.flush_free
  rw [he4]
  have hfl : d3.flush.1 = d3.act.flushed := by
    unfold DiskM.flush
    rw [S3.out.off, if_neg (by decide), S3.out.act_free.2, if_neg (by decide)]
  have hk4 : Keeps d3.flush.1 (pad64 xs) := by
    rw [hfl]
    exact Keeps.flushed (by rw [(DiskM.act_same d3).2.1]; exact W3.out) (by rw [(DiskM.act_same d3).1, S3.out.n]; omega)
  have H4 := Lib.hid h4
  have S4 := Lib.hid hs4
  have K4 := Lib.hid hk4
  clear h4 hs4 hk4 hfl he4
  generalize d3.flush.1 = d4 at H4 S4 K4
  go_wp2_with fail
  refine (arm_has w w4 D d4 (k : Int) H4.out (by omega)).mono ?_
  rintro e w5 ⟨rfl, h5⟩
  have H5 := Lib.hid h5
  have S5 := Lib.hid (S4.out.arm k)
  have K5 := Lib.hid (K4.out.arm (k : Int))
  clear h5
  generalize d4.armedBy (k : Int) = d5 at H5 S5 K5
  go_wp2_with fail
  -- two writes
  have step : ∀ (d : DiskM) (j wt a l : Nat) (o : Bool), j = 1 ∨ j = 2 → St d 3 wt a true l o → Keeps d (pad64 xs) → ∃ wt' a' l' o', wt' ≤ wt + 1 ∧ a' ≤ a + 1 ∧ l' ≤ l ∧ St (d.write (j : Int) ys).1 3 wt' a' true l' o' ∧ Keeps (d.write (j : Int) ys).1 (pad64 xs) := by
    intro d j wt a l o hj hs hkp
    cases o with
    | true =>
      rw [hs.write_off j ys (by omega) h64b]
      exact ⟨wt, a, l, true, by omega, by omega, by omega, hs, hkp⟩
    | false =>
      rw [hs.write_eq j ys (by omega) h64b]
      cases l with
      | zero => exact ⟨wt + 1, a + 1, 0, true, by omega, by omega, by omega, (hs.put _).act_stop.1, (hkp.put (j, pad64 ys) (by show j ≠ 0; omega)).act⟩
      | succ l => exact ⟨wt + 1, a + 1, l, false, by omega, by omega, by omega, (hs.put _).act_more.1, (hkp.put (j, pad64 ys) (by show j ≠ 0; omega)).act⟩
  have STEP := Lib.hid step
  clear step
  refine (write_has w w5 D d5 ((1 : Nat) : Int) _ ys H5.out (S5.out.fits (by omega) (by omega) (by omega)) (HV1.out.turn H5.out.turned (fun _ _ => id)) HY.out).mono ?_
  rintro e w6 ⟨rfl, h6⟩
  obtain ⟨wt6, a6, l6, o6, b6, b6', b6'', hs6, hk6⟩ := STEP.out d5 1 _ _ _ _ (.inl rfl) S5.out K5.out
  have H6 := Lib.hid h6
  have S6 := Lib.hid hs6
  have K6 := Lib.hid hk6
  clear h6 hs6 hk6
  generalize d5.write ((1 : Nat) : Int) ys = p6 at H6 S6 K6
  obtain ⟨d6, e6⟩ := p6
  dsimp only at H6 S6 K6
  go_wp2_with fail
  refine (write_has w w6 D d6 ((2 : Nat) : Int) _ ys H6.out (S6.out.fits (by omega) (by omega) (by omega)) (HV1.out.turn H6.out.turned (fun _ _ => id)) HY.out).mono ?_
  rintro e w7 ⟨rfl, h7⟩
  obtain ⟨wt7, a7, l7, o7, b7, b7', b7'', hs7, hk7⟩ := STEP.out d6 2 _ _ _ _ (.inr rfl) S6.out K6.out
  have H7 := Lib.hid h7
  have S7 := Lib.hid hs7
  have K7 := Lib.hid hk7
  clear h7 hs7 hk7 STEP
  generalize d6.write ((2 : Nat) : Int) ys = p7 at H7 S7 K7
  obtain ⟨d7, e7⟩ := p7
  dsimp only at H7 S7 K7
  go_wp2_with fail
  refine (flush_has w w7 D d7 H7.out (S7.out.fits (by omega) (by omega) (by omega))).mono ?_
  rintro e w8 ⟨rfl, h8⟩
  obtain ⟨f1, f2, f3, f4⟩ := flush_same d7
  have K8 := Lib.hid (K7.out.flush)
  have hf8 : Fits d7.flush.1 := ⟨by have := S7.out.acts; omega, by have := S7.out.left; omega, by have := S7.out.wet; omega⟩
  have N8 := Lib.hid (show d7.flush.1.safe.length = 3 by rw [f1]; exact S7.out.n)
  have F8 := Lib.hid hf8
  have H8 := Lib.hid h8
  clear h8 hf8 f1 f2 f3 f4
  generalize d7.flush = p8 at H8 K8 N8 F8
  obtain ⟨d8, e8⟩ := p8
  dsimp only at H8 K8 N8 F8
  go_wp2_with fail
  refine (crash_has w w8 D d8 _ ms H8.out F8.out (HV2.out.turn H8.out.turned (fun _ _ => id)) HO.out HM.out (by unfold maxLen at hml; exact hml)).mono ?_
  rintro e w9 ⟨rfl, h9⟩
  have H9 := Lib.hid h9
  have hla : (d8.crashed ms).last 0 = pad64 xs := K8.out.crash ms
  have hn9 : 0 < (d8.crashed ms).safe.length := by
    have : (d8.crashed ms).safe.length = d8.safe.length := keepK_len _ _ _ _
    rw [this, N8.out]; omega
  have hf9 : Fits (d8.crashed ms) := ⟨F8.out.acts, by show (0 : Nat) < _; omega, by show (0 : Nat) ≤ _; omega⟩
  have ho9 : (d8.crashed ms).off = false := rfl
  clear h9
  generalize d8.crashed ms = d9 at H9 hla hn9 hf9 ho9
  go_wp2_with fail
  refine (read_has w w9 D d9 0 H9.out hf9 hn9 ho9).mono ?_
  rintro e w10 ⟨B, rfl, hB, hr, _, t10, h10⟩
  rw [hla] at hr
  have H10 := Lib.hid h10
  have hRx : Reads w10 (.slice (some ⟨B, 0, none⟩) xs.length 64) xs := by
    refine .inr ⟨B, 0, 64, rfl, h64, fun i hi => ?_⟩
    refine hr i _ ?_
    unfold secV pad64
    rw [List.map_append, List.getElem?_append_left (by simpa using hi)]
    simp [List.getD, hi]
  have HRX := Lib.hid hRx
  have HRP := Lib.hid (HV0.out.turn h10.turned (fun _ _ => id))
  obtain ⟨st, hst⟩ : ∃ st, strOfNums xs = st := ⟨_, rfl⟩
  have HST := Lib.hid hst
  have hc64 : (xs.length : Int) ≤ 64 := by omega
  clear hr t10 h10 hRx hst hla hn9 hf9
  obtain ⟨n, hn⟩ : ∃ n, xs.length = n := ⟨_, rfl⟩
  rw [hn] at HRX HRP hc64 h64 g3 g1
  simp only [hn]
  go_wp2_with fail
  refine wp_region_held_drew (S := fun w' => Turn (fun _ => False) w10 w') (by kernel_rfl) ((Turn.refl _ w10).drew) (fun hHeld => ?_)
  refine wpAnyH_take (i := 0) (v := .int .i64 0) rfl (by kernel_rfl) (by kernel_rfl) (by kernel_rfl) (fun _ _ _ h => h) (Or.inl ⟨by rfl, ?y0⟩) (by assumption) ?r0
  case y0 => (intro w hSw; (try dsimp only at hSw); (try simp only [List.getElem_toArray, List.getElem_cons_zero, List.getElem_cons_succ]); go_simp; try with_reducible rfl)
  case r0 =>
  try simp only [Act.put, List.setIfInBounds_toArray, List.set_cons_zero, List.set_cons_succ, List.getElem_toArray, List.getElem_cons_zero, List.getElem_cons_succ]
  refine wpAnyH_take (i := 1) (v := .bool true) rfl (by kernel_rfl) (by kernel_rfl) (by kernel_rfl) (fun _ _ _ h => h) (Or.inl ⟨by rfl, ?y1⟩) (by assumption) ?r1
  case y1 => (intro w hSw; (try dsimp only at hSw); (try simp only [List.getElem_toArray, List.getElem_cons_zero, List.getElem_cons_succ]); go_simp; try with_reducible rfl)
  case r1 =>
  try simp only [Act.put, List.setIfInBounds_toArray, List.set_cons_zero, List.set_cons_succ, List.getElem_toArray, List.getElem_cons_zero, List.getElem_cons_succ]
  refine wpAnyH_take (i := 2) (v := .bool true) rfl (by kernel_rfl) (by kernel_rfl) (by kernel_rfl) (fun _ _ _ h => h) (Or.inl ⟨by rfl, ?y2⟩) (by assumption) ?r2
  case y2 => (intro w hSw; (try dsimp only at hSw); (try simp only [List.getElem_toArray, List.getElem_cons_zero, List.getElem_cons_succ]); go_simp; try with_reducible rfl)
  case r2 =>
  try simp only [Act.put, List.setIfInBounds_toArray, List.set_cons_zero, List.set_cons_succ, List.getElem_toArray, List.getElem_cons_zero, List.getElem_cons_succ]
  refine wpAnyH_take (i := 3) (v := .slice (some ⟨B, 0, none⟩) 64 64) rfl (by kernel_rfl) (by kernel_rfl) (by kernel_rfl) (fun _ _ _ h => h) (Or.inl ⟨by rfl, ?y3⟩) (by assumption) ?r3
  case y3 => (intro w hSw; (try dsimp only at hSw); (try simp only [List.getElem_toArray, List.getElem_cons_zero, List.getElem_cons_succ]); go_simp; try with_reducible rfl)
  case r3 =>
  try simp only [Act.put, List.setIfInBounds_toArray, List.set_cons_zero, List.set_cons_succ, List.getElem_toArray, List.getElem_cons_zero, List.getElem_cons_succ]
  refine wpAnyH_take (i := 4) (v := .slice a0 n c0) rfl (by kernel_rfl) (by kernel_rfl) (by kernel_rfl) (fun _ _ _ h => h) (Or.inl ⟨by rfl, ?y4⟩) (by assumption) ?r4
  case y4 => (intro w hSw; (try dsimp only at hSw); (try simp only [List.getElem_toArray, List.getElem_cons_zero, List.getElem_cons_succ]); go_simp; try with_reducible rfl)
  case r4 =>
  try simp only [Act.put, List.setIfInBounds_toArray, List.set_cons_zero, List.set_cons_succ, List.getElem_toArray, List.getElem_cons_zero, List.getElem_cons_succ]
  refine wpAnyH_take (i := 5) (v := .int .i64 (n : Int)) rfl (by kernel_rfl) (by kernel_rfl) (by kernel_rfl) (fun _ _ _ h => h) (Or.inl ⟨by rfl, ?y5⟩) (by assumption) ?r5
  case y5 => (intro w hSw; (try dsimp only at hSw); (try simp only [List.getElem_toArray, List.getElem_cons_zero, List.getElem_cons_succ]); go_simp; try with_reducible rfl)
  case r5 =>
  try simp only [Act.put, List.setIfInBounds_toArray, List.set_cons_zero, List.set_cons_succ, List.getElem_toArray, List.getElem_cons_zero, List.getElem_cons_succ]
  refine wpAnyH_take (i := 6) (v := .slice (some ⟨B, 0, none⟩) n 64) rfl (by kernel_rfl) (by kernel_rfl) (by kernel_rfl) (fun _ _ _ h => h) (Or.inl ⟨by rfl, ?y6⟩) (by assumption) ?r6
  case y6 => (intro w hSw; (try dsimp only at hSw); (try simp only [List.getElem_toArray, List.getElem_cons_zero, List.getElem_cons_succ]); go_simp; try with_reducible rfl)
  case r6 =>
  try simp only [Act.put, List.setIfInBounds_toArray, List.set_cons_zero, List.set_cons_succ, List.getElem_toArray, List.getElem_cons_zero, List.getElem_cons_succ]
  refine wpAnyH_take (i := 7) (v := .string st) rfl (by kernel_rfl) (by kernel_rfl) (by kernel_rfl) (fun _ _ _ h => h) (Or.inl ⟨by rfl, ?y7⟩) (by assumption) ?r7
  case y7 => (intro wq hSw; exact exec_convert _ _ 27 9 (.tmp 64) rfl _ _ _ rfl (by rw [← HST.out]; exact (HRX.out.turn hSw (fun _ _ => id)).conv))
  case r7 =>
  try simp only [Act.put, List.setIfInBounds_toArray, List.set_cons_zero, List.set_cons_succ, List.getElem_toArray, List.getElem_cons_zero, List.getElem_cons_succ]
  refine wpAnyH_take (i := 8) (v := .slice a0 n c0) rfl (by kernel_rfl) (by kernel_rfl) (by kernel_rfl) (fun _ _ _ h => h) (Or.inl ⟨by rfl, ?y8⟩) (by assumption) ?r8
  case y8 => (intro w hSw; (try dsimp only at hSw); (try simp only [List.getElem_toArray, List.getElem_cons_zero, List.getElem_cons_succ]); go_simp; try with_reducible rfl)
  case r8 =>
  try simp only [Act.put, List.setIfInBounds_toArray, List.set_cons_zero, List.set_cons_succ, List.getElem_toArray, List.getElem_cons_zero, List.getElem_cons_succ]
  refine wpAnyH_take (i := 9) (v := .string st) rfl (by kernel_rfl) (by kernel_rfl) (by kernel_rfl) (fun _ _ _ h => h) (Or.inl ⟨by rfl, ?y9⟩) (by assumption) ?r9
  case y9 => (intro wq hSw; exact exec_convert _ _ 27 9 (.tmp 66) rfl _ _ _ rfl (by rw [← HST.out]; exact (HRP.out.turn hSw (fun _ _ => id)).conv))
  case r9 =>
  try simp only [Act.put, List.setIfInBounds_toArray, List.set_cons_zero, List.set_cons_succ, List.getElem_toArray, List.getElem_cons_zero, List.getElem_cons_succ]
  refine wpAnyH_take (i := 10) (v := .bool true) rfl (by kernel_rfl) (by kernel_rfl) (by kernel_rfl) (fun _ _ _ h => h) (Or.inl ⟨by rfl, ?y10⟩) (by assumption) ?r10
  case y10 => (intro w hSw; (try dsimp only at hSw); (try simp only [List.getElem_toArray, List.getElem_cons_zero, List.getElem_cons_succ]); go_simp; try with_reducible rfl)
  case r10 =>
  try simp only [Act.put, List.setIfInBounds_toArray, List.set_cons_zero, List.set_cons_succ, List.getElem_toArray, List.getElem_cons_zero, List.getElem_cons_succ]
  refine wpAnyH_take (i := 11) (v := .bool true) rfl (by kernel_rfl) (by kernel_rfl) (by kernel_rfl) (fun _ _ _ h => h) (Or.inl ⟨by rfl, ?y11⟩) (by assumption) ?r11
  case y11 => (intro w hSw; (try dsimp only at hSw); (try simp only [List.getElem_toArray, List.getElem_cons_zero, List.getElem_cons_succ]); go_simp; try with_reducible rfl)
  case r11 =>
  try simp only [Act.put, List.setIfInBounds_toArray, List.set_cons_zero, List.set_cons_succ, List.getElem_toArray, List.getElem_cons_zero, List.getElem_cons_succ]
  refine wpAnyH_take (i := 12) (v := .bool true) rfl (by kernel_rfl) (by kernel_rfl) (by kernel_rfl) (fun _ _ _ h => h) (Or.inl ⟨by rfl, ?y12⟩) (by assumption) ?r12
  case y12 => (intro w hSw; (try dsimp only at hSw); (try simp only [List.getElem_toArray, List.getElem_cons_zero, List.getElem_cons_succ]); go_simp; try with_reducible rfl)
  case r12 =>
  try simp only [Act.put, List.setIfInBounds_toArray, List.set_cons_zero, List.set_cons_succ, List.getElem_toArray, List.getElem_cons_zero, List.getElem_cons_succ]
  refine wpAnyH_take (i := 13) (v := .pointer (some ⟨D, 0, none⟩)) rfl (by kernel_rfl) (by kernel_rfl) (by kernel_rfl) (fun _ _ _ h => h) (Or.inl ⟨by rfl, ?y13⟩) (by assumption) ?r13
  case y13 => (intro w hSw; (try dsimp only at hSw); (try simp only [List.getElem_toArray, List.getElem_cons_zero, List.getElem_cons_succ]); go_simp; try with_reducible rfl)
  case r13 =>
  try simp only [Act.put, List.setIfInBounds_toArray, List.set_cons_zero, List.set_cons_succ, List.getElem_toArray, List.getElem_cons_zero, List.getElem_cons_succ]
  refine wpAnyH_ready (rs := [14]) (by kernel_rfl) (by simp) ?_
  refine AllReadyH.cons rfl (fun K hK => ?_) AllReadyH.nil
  go_simp
  refine (on_has w w10.drew D d9 (H10.out.turn hHeld)).mono ?_
  rintro e w11 ⟨rfl, rfl⟩
  rw [ho9]
  refine hK.out _ _ hHeld (fun _ => ?_)
  clear hK K
  try simp only [Act.put, List.setIfInBounds_toArray, List.set_cons_zero, List.set_cons_succ, List.getElem_toArray, List.getElem_cons_zero, List.getElem_cons_succ]
  refine wpAnyH_take (i := 15) (v := .bool true) rfl (by kernel_rfl) (by kernel_rfl) (by kernel_rfl) (fun _ _ _ h => h) (Or.inl ⟨by rfl, ?y15⟩) (by assumption) ?r15
  case y15 => (intro w hSw; (try dsimp only at hSw); (try simp only [List.getElem_toArray, List.getElem_cons_zero, List.getElem_cons_succ]); go_simp; try with_reducible rfl)
  case r15 =>
  try simp only [Act.put, List.setIfInBounds_toArray, List.set_cons_zero, List.set_cons_succ, List.getElem_toArray, List.getElem_cons_zero, List.getElem_cons_succ]
  refine wpAnyH_take (i := 16) (v := .bool true) rfl (by kernel_rfl) (by kernel_rfl) (by kernel_rfl) (fun _ _ _ h => h) (Or.inl ⟨by rfl, ?y16⟩) (by assumption) ?r16
  case y16 => (intro w hSw; (try dsimp only at hSw); (try simp only [List.getElem_toArray, List.getElem_cons_zero, List.getElem_cons_succ]); go_simp; try with_reducible rfl)
  case r16 =>
  try simp only [Act.put, List.setIfInBounds_toArray, List.set_cons_zero, List.set_cons_succ, List.getElem_toArray, List.getElem_cons_zero, List.getElem_cons_succ]
  refine wpAnyH_done (by kernel_rfl) ?_ _
  go_wp2_with fail
  go_ret
  exact ⟨rfl, H10.out.turned.drew⟩

set_option maxHeartbeats 1600000 in
theorem diskSafe_walk (v0 v1 v2 : Value) (xs ys ms : List Int) (ac : Int) (w : World) (hv0 : Src w v0 xs) (hv1 : Src w v1 ys) (hv2 : Src w v2 ms) (hx : BytesOk xs) (hy : BytesOk ys) (hm : BytesOk ms) (m0 : xs.length ≤ maxLen) (m1 : ys.length ≤ maxLen) (hml : ms.length ≤ maxLen)
    (n0 : ∀ k, v0.ownBlock = some k → 0 < xs.length → k < w.heap.size) (n1 : ∀ k, v1.ownBlock = some k → 0 < ys.length → k < w.heap.size) (ho : ∀ k, v2.ownBlock = some k → 0 < ms.length → k < w.heap.size) (hac : 0 ≤ ac ∧ ac < 256) :
    Calls Try.prog 6 #[v0, v1, v2, .int .u8 ac] w (AwakePost w) := by
  by_cases hgood : xs.length ≤ 64 ∧ ys.length ≤ 64 ∧ ¬ xs.length = 0
  · exact safe_walk v0 v1 v2 xs ys ms ac w hv0 hv1 hv2 hx hy hm hml (fun h k hk => ho k hk h) hac hgood.1 hgood.2.1 hgood.2.2
  · obtain ⟨a0, c0, rfl, _⟩ := src_any hv0
    obtain ⟨a1, c1, rfl, _⟩ := src_any hv1
    obtain ⟨a2, c2, rfl, _⟩ := src_any hv2
    clear hv0 hv1 hv2 hx hy hm n0 n1 ho
    generalize xs.length = n at *
    generalize ys.length = m at *
    rcases (show 64 < n ∨ (¬ 64 < n ∧ 64 < m) ∨ (¬ 64 < n ∧ ¬ 64 < m ∧ n = 0) by omega) with h | ⟨h1, h⟩ | ⟨h1, h2, h⟩
    · have d1 : decide ((64 : Int) < (n : Int)) = true := by simp; omega
      clear hgood
      go_enter Try.func6, Try.ntmps6
      go_wp2_with fail
      refine (awake_any w).mono ?_
      rintro e w1 ⟨rfl, t1⟩
      go_wp2_with fail
      refine (awake_any w1).mono ?_
      rintro e w2 ⟨rfl, t2⟩
      go_wp2_with fail
      go_ret
      exact ⟨rfl, t1.trans t2 (fun _ _ => id)⟩
    · have d1 : decide ((64 : Int) < (n : Int)) = false := by simp; omega
      have d2 : decide ((64 : Int) < (m : Int)) = true := by simp; omega
      clear hgood
      go_enter Try.func6, Try.ntmps6
      go_wp2_with fail
      refine (awake_any w).mono ?_
      rintro e w1 ⟨rfl, t1⟩
      go_wp2_with fail
      refine (awake_any w1).mono ?_
      rintro e w2 ⟨rfl, t2⟩
      go_wp2_with fail
      go_ret
      exact ⟨rfl, t1.trans t2 (fun _ _ => id)⟩
    · have d1 : decide ((64 : Int) < (n : Int)) = false := by simp; omega
      have d2 : decide ((64 : Int) < (m : Int)) = false := by simp; omega
      have d3 : ((n : Int) == 0) = true := by rw [beq_iff_eq]; omega
      clear hgood h
      go_enter Try.func6, Try.ntmps6
      go_wp2_with fail
      refine (awake_any w).mono ?_
      rintro e w1 ⟨rfl, t1⟩
      go_wp2_with fail
      refine (awake_any w1).mono ?_
      rintro e w2 ⟨rfl, t2⟩
      go_wp2_with fail
      go_ret
      exact ⟨rfl, t1.trans t2 (fun _ _ => id)⟩
end Go.Proofs.Ytckeackepolhdaa
