/- Own: the walk of the law of the way back. No statement is proved here. -/
import Derived.Test.YtmhdcpkncaghpaaFills
namespace Go.Proofs.Ytmhdcpkncaghpaa
open Go.RowKit
set_option linter.unusedVariables false
set_option linter.unusedSimpArgs false

def ints (xs : List Nat) : List Value := xs.map (fun (x : Nat) => Value.int .i64 (x : Int))
theorem ints_len (xs : List Nat) : (ints xs).length = xs.length := by simp [ints]
theorem ints_one (xs : List Nat) : ∀ v ∈ ints xs, v.oneCell' = true := by
  intro v hv
  simp only [ints, List.mem_map] at hv
  obtain ⟨x, _, rfl⟩ := hv
  rfl
theorem ints_get {xs : List Nat} {j : Nat} (h : j < xs.length) : (ints xs)[j]? = some (.int .i64 ((xs.getD j 0 : Nat) : Int)) := by
  simp [ints, List.getD, h]
theorem info3 : ∃ i, Try.prog.info? 3 = some i ∧ i.size = 1 ∧ i.bytes = 8 ∧ i.zero = some (.int .i64 0) := ⟨_, rfl, rfl, rfl, rfl⟩
theorem app_int (w : World) (v : Value) (xs : List Nat) (x : Nat) (hv : w.ownsRow 0 3 1 v xs.length (ints xs)) (hL : xs.length ≤ 100) :
    ∃ a n c W, (Builtin.append_ #[36, 36] 36 #[v, .slice (some ⟨w.heap.size, 0, none⟩) 1 1]).run Try.prog (w.alloc (.cells #[.int .i64 (x : Int)] 3)) = .ok (.slice a n c) W ∧ n = xs.length + 1 ∧
      W.ownsRow 0 3 1 (.slice a n c) (xs ++ [x]).length (ints (xs ++ [x])) ∧ Fresh w v (.slice a n c) ∧ Turn (fun k => v.ownBlock = some k) w W := by
  obtain ⟨i0, hi0, h2, h3, hz⟩ := info3
  have T1 : Turn (fun _ => False) w (w.alloc (.cells #[.int .i64 (x : Int)] 3)) := (Turn.refl _ w).alloc _
  have hv1 := T1.owns hv (fun _ _ => id)
  have ho : (w.alloc (.cells #[.int .i64 (x : Int)] 3)).ownsRow 0 3 1 (.slice (some ⟨w.heap.size, 0, none⟩) 1 1) 1 (ints [x]) :=
    ⟨rfl, .inr ⟨w.heap.size, 1, #[.int .i64 (x : Int)], rfl, Nat.zero_le _, heap_alloc_new w _, Nat.le_refl _, by decide, rfl, rfl⟩⟩
  have hc := ho.cells (g := w.heap.size) rfl
  obtain ⟨v', W, hr, q1, q2, q3⟩ := run_append_own (P := Try.prog) (w.alloc (.cells #[.int .i64 (x : Int)] 3)) 0 36 36 3 i0 _ 1 8 Try.underlying36 hi0 hz h2 h3 rfl (by decide) v xs.length (ints xs) hv1 ⟨w.heap.size, 0, none⟩ 1 1 (ints [x]) rfl hc (ints_one _) (by simp only [maxLen]; omega) (by omega) (Nat.zero_le _)
  have q4 := run_append_where (P := Try.prog) (w.alloc (.cells #[.int .i64 (x : Int)] 3)) 36 36 3 i0 _ 1 8 Try.underlying36 hi0 hz h2 h3 rfl (by decide) 0 v xs.length (ints xs) hv1 ⟨w.heap.size, 0, none⟩ 1 1 (ints [x]) rfl hc (ints_one _) (by simp only [maxLen]; omega) (by omega) v' W hr
  have q1' : W.ownsRow 0 3 1 v' (xs ++ [x]).length (ints (xs ++ [x])) := by
    have e : ints (xs ++ [x]) = ints xs ++ ints [x] := by simp [ints]
    rw [e, List.length_append]; exact q1
  have hq := q1'
  rcases q1'.2 with ⟨rfl, h0⟩ | ⟨g, cap, cur, rfl, _⟩
  · simp at h0
  · exact ⟨_, _, _, W, hr, by simp, hq, (Fresh.refl _ _).trans T1.size q4, (T1.mono (fun _ _ h => h.elim)).grown q2 (fun k hk _ => hk)⟩

/-- A map and two rows of numbers, all of this law's own, and apart. -/
structure BSt (w1 wr : World) (D P : Nat) (U : Nat → Bool) (F : Nat → Prop) (av bv : Value) (xs ys : List Nat) : Prop where
  map : MapU wr F D P U
  new : ∀ k, F k → w1.heap.size ≤ k
  turn : Turn (fun _ => False) w1 wr
  ra : wr.ownsRow 0 3 1 av xs.length (ints xs)
  rb : wr.ownsRow 0 3 1 bv ys.length (ints ys)
  na : ∀ k, av.ownBlock = some k → w1.heap.size ≤ k ∧ ¬ F k ∧ bv.ownBlock ≠ some k
  nb : ∀ k, bv.ownBlock = some k → w1.heap.size ≤ k ∧ ¬ F k
theorem BSt.calm {w1 wr w' : World} {D P : Nat} {U : Nat → Bool} {F : Nat → Prop} {av bv : Value} {xs ys : List Nat} (h : BSt w1 wr D P U F av bv xs ys) (T : Turn (fun _ => False) wr w') : BSt w1 w' D P U F av bv xs ys :=
  ⟨h.map.none T, h.new, h.turn.trans T (fun _ _ => id), T.owns h.ra (fun _ _ => id), T.owns h.rb (fun _ _ => id), h.na, h.nb⟩
theorem BSt.grow {w1 wr w' : World} {D P : Nat} {U V : Nat → Bool} {F F' : Nat → Prop} {av bv : Value} {xs ys : List Nat} (h : BSt w1 wr D P U F av bv xs ys) (g : Grow wr F w' F') (m : MapU w' F' D P V) : BSt w1 w' D P V F' av bv xs ys := by
  refine ⟨m, fun k hk => ?_, h.turn.trans g.1 (fun k hk hF => by have := h.new k hF; omega), g.1.owns h.ra (fun k hk => (h.na k hk).2.1), g.1.owns h.rb (fun k hk => (h.nb k hk).2), fun k hk => ?_, fun k hk => ?_⟩
  · by_cases hw : k < wr.heap.size
    · exact h.new k (g.2 k hw hk)
    · have := h.turn.size; omega
  · exact ⟨(h.na k hk).1, fun hF => (h.na k hk).2.1 (g.2 k (h.ra.lt k hk).2 hF), (h.na k hk).2.2⟩
  · exact ⟨(h.nb k hk).1, fun hF => (h.nb k hk).2 (g.2 k (h.rb.lt k hk).2 hF)⟩
theorem BSt.appA {w1 wr w' : World} {D P : Nat} {U : Nat → Bool} {F : Nat → Prop} {av bv v' : Value} {xs ys zs : List Nat} (h : BSt w1 wr D P U F av bv xs ys) (o : w'.ownsRow 0 3 1 v' zs.length (ints zs)) (f : Fresh wr av v') (T : Turn (fun k => av.ownBlock = some k) wr w') : BSt w1 w' D P U F v' bv zs ys := by
  refine ⟨h.map.turn T (fun k hF e => (h.na k e).2.1 hF), h.new, h.turn.trans T (fun k hk e => by have := (h.na k e).1; omega), o, T.owns h.rb (fun k hk e => (h.na k e).2.2 hk), fun k hk => ?_, h.nb⟩
  rcases f with f | ⟨g, f, hg⟩
  · exact h.na k (f.symm.trans hk)
  · rw [hk] at f; cases f
    exact ⟨Nat.le_trans h.turn.size hg, fun hF => by have := h.map.lt k hF; omega, fun e => by have := (h.rb.lt k e).2; omega⟩
theorem BSt.appB {w1 wr w' : World} {D P : Nat} {U : Nat → Bool} {F : Nat → Prop} {av bv v' : Value} {xs ys zs : List Nat} (h : BSt w1 wr D P U F av bv xs ys) (o : w'.ownsRow 0 3 1 v' zs.length (ints zs)) (f : Fresh wr bv v') (T : Turn (fun k => bv.ownBlock = some k) wr w') : BSt w1 w' D P U F av v' xs zs := by
  refine ⟨h.map.turn T (fun k hF e => (h.nb k e).2 hF), h.new, h.turn.trans T (fun k hk e => by have := (h.nb k e).1; omega), T.owns h.ra (fun k hk e => (h.na k hk).2.2 e), o, fun k hk => ?_, fun k hk => ?_⟩
  · refine ⟨(h.na k hk).1, (h.na k hk).2.1, fun e => ?_⟩
    rcases f with f | ⟨g, f, hg⟩
    · exact (h.na k hk).2.2 (f.symm.trans e)
    · rw [e] at f; cases f
      have := (h.ra.lt k hk).2; omega
  · rcases f with f | ⟨g, f, hg⟩
    · exact h.nb k (f.symm.trans hk)
    · rw [hk] at f; cases f
      exact ⟨Nat.le_trans h.turn.size hg, fun hF => by have := h.map.lt k hF; omega⟩
theorem row_cell {w : World} {g n c j : Nat} {xs : List Nat} (h : w.ownsRow 0 3 1 (.slice (some ⟨g, 0, none⟩) n c) xs.length (ints xs)) (hj : j < xs.length) : w.cell? ⟨g, j, none⟩ = some (.int .i64 ((xs.getD j 0 : Nat) : Int)) := by
  have := h.cells (g := g) rfl j _ (ints_get hj)
  rwa [Addr.add_lit, Nat.zero_add] at this
theorem BSt.cellA {w1 wr : World} {D P : Nat} {U : Nat → Bool} {F : Nat → Prop} {bv : Value} {xs ys : List Nat} {ga n c : Nat} (h : BSt w1 wr D P U F (.slice (some ⟨ga, 0, none⟩) n c) bv xs ys) {j : Nat} (hj : j < xs.length) : wr.cell? ⟨ga, j, none⟩ = some (.int .i64 ((xs.getD j 0 : Nat) : Int)) := row_cell h.ra hj
theorem BSt.cellB {w1 wr : World} {D P : Nat} {U : Nat → Bool} {F : Nat → Prop} {av : Value} {xs ys : List Nat} {gb n c : Nat} (h : BSt w1 wr D P U F av (.slice (some ⟨gb, 0, none⟩) n c) xs ys) {j : Nat} (hj : j < ys.length) : wr.cell? ⟨gb, j, none⟩ = some (.int .i64 ((ys.getD j 0 : Nat) : Int)) := row_cell h.rb hj

theorem cnt_none (P : Nat) : cnt (fun _ => false) P = 0 := by
  induction P with
  | zero => rfl
  | succ P ih => unfold cnt; rw [ih]; rfl
/-- What the pairs take. -/
def UA : List (Nat × Nat) → Nat → Bool
  | [], _ => false
  | r :: A, p => inR (r.1, r.1 + r.2) p || UA A p
def Dis (P : Nat) : List (Nat × Nat) → Prop
  | [] => True
  | r :: A => 0 < r.2 ∧ r.2 ≤ 12 ∧ r.1 + r.2 ≤ P ∧ (∀ p, inR (r.1, r.1 + r.2) p = true → UA A p = false) ∧ Dis P A
theorem UA_app (A B : List (Nat × Nat)) (p : Nat) : UA (A ++ B) p = (UA A p || UA B p) := by
  induction A with
  | nil => simp [UA]
  | cons r A ih => simp only [List.cons_append, UA, ih, Bool.or_assoc]
theorem Dis_app {P : Nat} {A : List (Nat × Nat)} {r : Nat × Nat} (h : Dis P A) (h0 : 0 < r.2) (h12 : r.2 ≤ 12) (h1 : r.1 + r.2 ≤ P) (h2 : ∀ p, inR (r.1, r.1 + r.2) p = true → UA A p = false) : Dis P (A ++ [r]) := by
  induction A with
  | nil => exact ⟨h0, h12, h1, fun _ _ => rfl, trivial⟩
  | cons q A ih =>
    obtain ⟨a, a12, b, c, d⟩ := h
    refine ⟨a, a12, b, fun p hp => ?_, ih d (fun p hp => ?_)⟩
    · show UA (A ++ [r]) p = false
      rw [UA_app, c p hp]
      show (false || (inR (r.1, r.1 + r.2) p || false)) = false
      cases hr : inR (r.1, r.1 + r.2) p with
      | false => rfl
      | true =>
        have := h2 p hr
        simp only [UA, hp] at this
        cases this
    · have := h2 p hp
      simp only [UA, Bool.or_eq_false_iff] at this
      exact this.2
theorem getD_map1 (A : List (Nat × Nat)) {j : Nat} (h : j < A.length) : (A.map (·.1)).getD j 0 = A[j].1 := by simp [List.getD, h]
theorem getD_map2 (A : List (Nat × Nat)) {j : Nat} (h : j < A.length) : (A.map (·.2)).getD j 0 = A[j].2 := by simp [List.getD, h]

set_option maxHeartbeats 3200000 in
set_option maxRecDepth 100000 in
theorem back_law (w : World) (n' : Int) (v : Value) (xs : List Nat) (hn' : 0 ≤ n' ∧ n' < 256) (hv : Bs w v xs) (hl : xs.length ≤ maxLen) : Calls Try.prog 6 #[.int .u8 n', v] w (None w (.bool true)) := by
  obtain ⟨P, rfl⟩ := Int.eq_ofNat_of_zero_le hn'.1
  obtain ⟨av, cp, rfl, hcells⟩ := hv
  have HV := Lib.hid (show Bs w (.slice av xs.length cp) xs from ⟨av, cp, rfl, hcells⟩)
  clear hcells
  obtain ⟨n, hn⟩ : ∃ n, xs.length = n := ⟨_, rfl⟩
  rw [hn] at HV hl ⊢
  have HN := Lib.hid hn
  clear hn
  have hl63 : n ≤ 9223372036854775807 := by simp only [maxLen] at hl; omega
  by_cases hbig : 20 < n
  · have hbI : (20 : Int) < (n : Int) := by omega
    go_enter Try.func6, Try.ntmps6
    go_wp2_with fail
    refine (awake_any w).mono ?_
    rintro e w1 ⟨rfl, T1⟩
    go_wp2_with fail
    refine (awake_any w1).mono ?_
    rintro e w2 ⟨rfl, T2⟩
    go_wp2_with fail
    go_ret
    exact ⟨rfl, T1.trans T2 (fun _ _ => id)⟩
  · have hbI : ¬ ((20 : Int) < (n : Int)) := by omega
    go_enter Try.func6, Try.ntmps6
    go_wp2_with fail
    refine (awake_any w).mono ?_
    rintro e w1 ⟨rfl, T1⟩
    have HV1 := Lib.hid (HV.out.none T1)
    go_wp2_with fail
    refine (new_h w1 (P : Int) (by omega)).mono ?_
    rintro e w2 ⟨D, F, rfl, h2, hF, T2⟩
    have hb0 : BSt w1 w2 D P (UA []) F (.slice none 0 0) (.slice none 0 0) [] [] := ⟨by rw [Int.toNat_natCast] at h2; exact h2, hF, T2, World.ownsRow_nil _ _ _ _, World.ownsRow_nil _ _ _ _, (fun k hk => by cases hk), (fun k hk => by cases hk)⟩
    have HB0 := Lib.hid hb0
    clear hb0 h2 hF
    go_wp2_with fail
    go_loopw [6, 7, 8] (fun sa sb iv wr => ∃ (i m : Nat) (A : List (Nat × Nat)) (F : Nat → Prop) (a1 a2 : Option Addr) (c1 c2 : Nat), i ≤ n ∧ m ≤ i ∧ iv = .int .i64 (i : Int) ∧ sa = .slice a1 m c1 ∧ sb = .slice a2 m c2 ∧ A.length = m ∧ Dis P A ∧ BSt w1 wr D P (UA A) F (.slice a1 m c1) (.slice a2 m c2) (A.map (·.1)) (A.map (·.2))) (fun _ _ iv _ => (n - intOf iv).toNat)
    case atStart => exact ⟨0, 0, [], F, none, none, 0, 0, Nat.zero_le _, Nat.le_refl _, rfl, rfl, rfl, rfl, trivial, HB0.out⟩
    case round =>
      obtain ⟨i, m, A, F, a1, a2, c1, c2, hi, hmi, rfl, rfl, rfl, hAm, hdis, hbst⟩ := hrel
      have HAM := Lib.hid hAm
      have HDIS := Lib.hid hdis
      have HB := Lib.hid hbst
      clear hAm hdis hbst
      by_cases hlt : i < n
      · obtain ⟨a', k2, he, hcc⟩ := HV1.out.none HB.out.turn
        rw [HN.out] at he
        cases he
        obtain ⟨b, o, rfl, e1, e2⟩ := hcc i (by rw [HN.out]; exact hlt)
        obtain ⟨x, hx⟩ : ∃ x, xs.getD i 0 = x := ⟨_, rfl⟩
        obtain ⟨y, hy⟩ : ∃ y, x % 12 = y := ⟨_, rfl⟩
        rw [hx] at e1 e2
        have hy12 : y < 12 := by omega
        have y1 : (x : Int) % 12 = (y : Int) := by omega
        have y2 : Int.tmod (x : Int) 12 = (y : Int) := by rw [Int.tmod_eq_emod_of_nonneg (by omega)]; exact y1
        obtain ⟨k, hk⟩ : ∃ k, 1 + y = k := ⟨_, rfl⟩
        have k1 : 1 + (y : Int) = (k : Int) := by omega
        have hk0 : 0 < k ∧ k ≤ 12 := by omega
        clear hx hy hk hcc
        have hiI : (i : Int) < (n : Int) := by omega
        obtain ⟨op, hle⟩ : ∃ op, Least (UA A) P k op := by
          obtain ⟨v9, L9, -, g9, u9, -⟩ := HB.out.map
          exact ⟨_, least_eq u9 (fnd_least hk0.1 g9)⟩
        have HLE := Lib.hid hle
        have HFD := Lib.hid (find_h wr F D P _ HB.out.map (by omega) k hk0.1 (by omega) op hle)
        clear hle
        cases op with
        | none =>
          go_wp2_with fail
          refine (HFD.out).mono ?_
          rintro e w3 ⟨rfl, T3⟩
          rw [show optI none = -1 from rfl]
          have HB3 := Lib.hid (HB.out.calm T3)
          go_wp2_with fail
          go_roundw
          case measure => simp [intOf]; omega
          case rel => exact ⟨i + 1, m, A, F, a1, a2, c1, c2, by omega, by omega, by simp, rfl, rfl, HAM.out, HDIS.out, HB3.out⟩
        | some p =>
          obtain ⟨hfr, -⟩ := HLE.out
          have hpk := hfr.1
          have hfp := hfr.2
          have hp0 : (0 : Int) ≤ (p : Int) := by omega
          have HFP := Lib.hid hfp
          clear hfr hfp
          go_wp2_with fail
          refine (HFD.out).mono ?_
          rintro e w3 ⟨rfl, T3⟩
          rw [show optI (some p) = (p : Int) from rfl]
          have HB3 := Lib.hid (HB.out.calm T3)
          go_wp2_with fail
          refine (take_yes w3 F D P _ HB3.out.map (by omega) p k hpk (fun q q1 q2 => by have := HFP.out (q - p) (by omega); rwa [show p + (q - p) = q by omega] at this)).mono ?_
          rintro e w4 ⟨rfl, F4, g4, h4⟩
          have hext : MapU w4 F4 D P (UA (A ++ [(p, k)])) := h4.ext (fun q => by rw [UA_app]; simp [UA])
          have HB4 := Lib.hid (HB3.out.grow g4 hext)
          have HD4 := Lib.hid (Dis_app (r := (p, k)) HDIS.out hk0.1 hk0.2 hpk (fun q hq => by
            have hq := of_decide_eq_true hq
            have := HFP.out (q - p) (by have := hq.2; have := hq.1; show q - p < k; omega)
            rwa [show p + (q - p) = q by have := hq.1; omega] at this))
          clear h4 g4 hext
          obtain ⟨a5, n5, k5, w5, hr5, hn5, O5, Fr5, T5⟩ := app_int w4 _ _ p HB4.out.ra (by have := HAM.out; simp; omega)
          have HB5 := Lib.hid (HB4.out.appA O5 Fr5 T5)
          obtain ⟨a6, n6, k6, w6, hr6, hn6, O6, Fr6, T6⟩ := app_int w5 _ _ k HB5.out.rb (by have := HAM.out; simp; omega)
          have HB6 := Lib.hid (HB5.out.appB O6 Fr6 T6)
          have hnm5 : n5 = m + 1 := by rw [hn5, List.length_map, HAM.out]
          have hnm6 : n6 = m + 1 := by rw [hn6, List.length_map, HAM.out]
          subst hnm5 hnm6
          have em1 : A.map (·.1) ++ [p] = (A ++ [(p, k)]).map (·.1) := by simp
          have em2 : A.map (·.2) ++ [k] = (A ++ [(p, k)]).map (·.2) := by simp
          rw [em1, em2] at HB6
          clear O5 Fr5 T5 O6 Fr6 T6 hn5 hn6 em1 em2
          go_wp2_with (first | (at_builtin; refine Lib.wpList_append_run _ rfl _ _ _ _ rfl _ _ rfl rfl _ _ hr5 ?_) | (at_builtin; refine Lib.wpList_append_run _ rfl _ _ _ _ rfl _ _ rfl rfl _ _ hr6 ?_))
          go_roundw
          case measure => simp [intOf]; omega
          case rel => exact ⟨i + 1, m + 1, A ++ [(p, k)], F4, a5, a6, k5, k6, by omega, by omega, by simp, rfl, rfl, by rw [List.length_append, HAM.out]; rfl, HD4.out, HB6.out⟩
      · obtain rfl : i = n := by omega
        have hiI : ¬ ((i : Int) < (i : Int)) := by omega
        have hA0 : A.drop 0 = A := rfl
        obtain ⟨w9, hw9⟩ : ∃ w9, w9 = wr := ⟨_, rfl⟩
        rw [← hw9] at HB
        have HW9 := Lib.hid hw9
        clear hw9
        go_wp2_with fail
        go_loopw [11] (fun jv wr => ∃ (j : Nat) (F : Nat → Prop), j ≤ m ∧ jv = .int .i64 (j : Int) ∧ Dis P (A.drop j) ∧ BSt w1 wr D P (UA (A.drop j)) F (.slice a1 m c1) (.slice a2 m c2) (A.map (·.1)) (A.map (·.2))) (fun jv _ => (m - intOf jv).toNat)
        case atStart => exact ⟨0, F, Nat.zero_le _, rfl, HDIS.out, by rw [← HW9.out]; exact HB.out⟩
        case round =>
          obtain ⟨j, F, hj, rfl, hdj, hbj⟩ := hrel
          have HDJ := Lib.hid hdj
          have HBJ := Lib.hid hbj
          clear hdj hbj HB HB0
          by_cases hltj : j < m
          · have hjA : j < A.length := by rw [HAM.out]; exact hltj
            have hjx : j < (A.map (·.1)).length := by simp; exact hjA
            have hjy : j < (A.map (·.2)).length := by simp; exact hjA
            have hdrop : A.drop j = A[j] :: A.drop (j + 1) := List.drop_eq_getElem_cons hjA
            have hdd := HDJ.out
            rw [hdrop] at hdd
            obtain ⟨q0, q12, q1, q2, q3⟩ := hdd
            obtain ⟨ga, ka, hga⟩ : ∃ ga ka, Value.slice a1 m c1 = .slice (some ⟨ga, 0, none⟩) m ka := by
              rcases HBJ.out.ra.2 with ⟨h9, h0⟩ | ⟨g, cap, cur, h9, _⟩
              · omega
              · rw [h9]; cases h9; exact ⟨g, _, rfl⟩
            cases hga
            obtain ⟨gb, kb, hgb⟩ : ∃ gb kb, Value.slice a2 m c2 = .slice (some ⟨gb, 0, none⟩) m kb := by
              rcases HBJ.out.rb.2 with ⟨h9, h0⟩ | ⟨g, cap, cur, h9, _⟩
              · omega
              · rw [h9]; cases h9; exact ⟨g, _, rfl⟩
            cases hgb
            have ca := HBJ.out.cellA hjx
            have cb := HBJ.out.cellB hjy
            have ea := getD_map1 A hjA
            have eb := getD_map2 A hjA
            obtain ⟨px, hpx⟩ : ∃ px, A[j].1 = px := ⟨_, rfl⟩
            obtain ⟨ky, hky⟩ : ∃ ky, A[j].2 = ky := ⟨_, rfl⟩
            rw [hpx] at ea
            rw [hky] at eb
            rw [ea] at ca
            rw [eb] at cb
            rw [hpx, hky] at q1 q2
            rw [hky] at q0 q12
            have HU := Lib.hid (show ∀ p, (UA (A.drop j) p && !inR (px, px + ky) p) = UA (A.drop (j + 1)) p from fun p => by
              rw [hdrop]
              show ((inR (A[j].1, A[j].1 + A[j].2) p || UA (A.drop (j + 1)) p) && !inR (px, px + ky) p) = _
              rw [hpx, hky]
              cases hr : inR (px, px + ky) p with
              | true => rw [q2 p hr]; rfl
              | false => simp)
            have HBD := Lib.hid (HBJ.out.calm (Turn.refl _ _).drew)
            have HF1 := Lib.hid (free_yes wr.drew F D P _ HBD.out.map (by omega) px ky q1 (fun p p1 p2 => by
              rw [hdrop]
              show (inR (A[j].1, A[j].1 + A[j].2) p || UA (A.drop (j + 1)) p) = true
              rw [hpx, hky, inR_true p1 p2]; rfl))
            have HCELL : ∀ wz : World, (wz.cell? ⟨ga, j, none⟩ = some (.int .i64 (((A.map (·.1)).getD j 0 : Nat) : Int)) ∧ wz.cell? ⟨gb, j, none⟩ = some (.int .i64 (((A.map (·.2)).getD j 0 : Nat) : Int))) → (wz.cell? ⟨ga, j, none⟩ = some (.int .i64 (px : Int)) ∧ wz.cell? ⟨gb, j, none⟩ = some (.int .i64 (ky : Int))) := fun wz hz => by
              rw [ea, eb] at hz; exact hz
            have HQ3 := Lib.hid q3
            have hjI : (j : Int) < (m : Int) := by omega
            clear hdrop hpx hky ea eb q2 q3
            go_wp2_with fail
            refine wp_region_held_drew (S := fun wq => wq.cell? ⟨ga, j, none⟩ = some (.int .i64 (px : Int)) ∧ wq.cell? ⟨gb, j, none⟩ = some (.int .i64 (ky : Int))) (by kernel_rfl) ⟨ca, cb⟩ (fun hHeld => ?_)
            refine wpAnyH_take (i := 0) (v := .pointer (some ⟨D, 0, none⟩)) rfl (by kernel_rfl) (by kernel_rfl) (by kernel_rfl) (fun _ _ _ h => h) (Or.inl ⟨by rfl, ?yf0⟩) (by assumption) ?rf0
            case yf0 => (intro wq hSw; (try simp only [List.getElem_toArray, List.getElem_cons_zero, List.getElem_cons_succ]); go_simp; (try with_reducible rfl); all_goals (try omega))
            case rf0 =>
            try simp only [Act.put, List.setIfInBounds_toArray, List.set_cons_zero, List.set_cons_succ, List.getElem_toArray, List.getElem_cons_zero, List.getElem_cons_succ]
            refine wpAnyH_take (i := 1) (v := .slice (some ⟨ga, 0, none⟩) m c1) rfl (by kernel_rfl) (by kernel_rfl) (by kernel_rfl) (fun _ _ _ h => h) (Or.inl ⟨by rfl, ?yf1⟩) (by assumption) ?rf1
            case yf1 => (intro wq hSw; (try simp only [List.getElem_toArray, List.getElem_cons_zero, List.getElem_cons_succ]); go_simp; (try with_reducible rfl); all_goals (try omega))
            case rf1 =>
            try simp only [Act.put, List.setIfInBounds_toArray, List.set_cons_zero, List.set_cons_succ, List.getElem_toArray, List.getElem_cons_zero, List.getElem_cons_succ]
            refine wpAnyH_take (i := 2) (v := .int .i64 (j : Int)) rfl (by kernel_rfl) (by kernel_rfl) (by kernel_rfl) (fun _ _ _ h => h) (Or.inl ⟨by rfl, ?yf2⟩) (by assumption) ?rf2
            case yf2 => (intro wq hSw; (try simp only [List.getElem_toArray, List.getElem_cons_zero, List.getElem_cons_succ]); go_simp; (try with_reducible rfl); all_goals (try omega))
            case rf2 =>
            try simp only [Act.put, List.setIfInBounds_toArray, List.set_cons_zero, List.set_cons_succ, List.getElem_toArray, List.getElem_cons_zero, List.getElem_cons_succ]
            refine wpAnyH_take (i := 3) (v := .pointer (some ⟨ga, j, none⟩)) rfl (by kernel_rfl) (by kernel_rfl) (by kernel_rfl) (fun _ _ _ h => h) (Or.inl ⟨by rfl, ?yf3⟩) (by assumption) ?rf3
            case yf3 => (intro wq hSw; (try simp only [List.getElem_toArray, List.getElem_cons_zero, List.getElem_cons_succ]); go_simp; (try with_reducible rfl); all_goals (try omega))
            case rf3 =>
            try simp only [Act.put, List.setIfInBounds_toArray, List.set_cons_zero, List.set_cons_succ, List.getElem_toArray, List.getElem_cons_zero, List.getElem_cons_succ]
            refine wpAnyH_take (i := 4) (v := .int .i64 (px : Int)) rfl (by kernel_rfl) (by kernel_rfl) (by kernel_rfl) (fun _ _ _ h => h) (Or.inl ⟨by rfl, ?yf4⟩) (by assumption) ?rf4
            case yf4 => (intro wq hSw; obtain ⟨z1, z2⟩ := hSw; (try simp only [List.getElem_toArray, List.getElem_cons_zero, List.getElem_cons_succ]); go_simp; (try with_reducible rfl); all_goals (try omega))
            case rf4 =>
            try simp only [Act.put, List.setIfInBounds_toArray, List.set_cons_zero, List.set_cons_succ, List.getElem_toArray, List.getElem_cons_zero, List.getElem_cons_succ]
            refine wpAnyH_take (i := 5) (v := .slice (some ⟨gb, 0, none⟩) m c2) rfl (by kernel_rfl) (by kernel_rfl) (by kernel_rfl) (fun _ _ _ h => h) (Or.inl ⟨by rfl, ?yf5⟩) (by assumption) ?rf5
            case yf5 => (intro wq hSw; (try simp only [List.getElem_toArray, List.getElem_cons_zero, List.getElem_cons_succ]); go_simp; (try with_reducible rfl); all_goals (try omega))
            case rf5 =>
            try simp only [Act.put, List.setIfInBounds_toArray, List.set_cons_zero, List.set_cons_succ, List.getElem_toArray, List.getElem_cons_zero, List.getElem_cons_succ]
            refine wpAnyH_take (i := 6) (v := .int .i64 (j : Int)) rfl (by kernel_rfl) (by kernel_rfl) (by kernel_rfl) (fun _ _ _ h => h) (Or.inl ⟨by rfl, ?yf6⟩) (by assumption) ?rf6
            case yf6 => (intro wq hSw; (try simp only [List.getElem_toArray, List.getElem_cons_zero, List.getElem_cons_succ]); go_simp; (try with_reducible rfl); all_goals (try omega))
            case rf6 =>
            try simp only [Act.put, List.setIfInBounds_toArray, List.set_cons_zero, List.set_cons_succ, List.getElem_toArray, List.getElem_cons_zero, List.getElem_cons_succ]
            refine wpAnyH_take (i := 7) (v := .pointer (some ⟨gb, j, none⟩)) rfl (by kernel_rfl) (by kernel_rfl) (by kernel_rfl) (fun _ _ _ h => h) (Or.inl ⟨by rfl, ?yf7⟩) (by assumption) ?rf7
            case yf7 => (intro wq hSw; (try simp only [List.getElem_toArray, List.getElem_cons_zero, List.getElem_cons_succ]); go_simp; (try with_reducible rfl); all_goals (try omega))
            case rf7 =>
            try simp only [Act.put, List.setIfInBounds_toArray, List.set_cons_zero, List.set_cons_succ, List.getElem_toArray, List.getElem_cons_zero, List.getElem_cons_succ]
            refine wpAnyH_take (i := 8) (v := .int .i64 (ky : Int)) rfl (by kernel_rfl) (by kernel_rfl) (by kernel_rfl) (fun _ _ _ h => h) (Or.inl ⟨by rfl, ?yf8⟩) (by assumption) ?rf8
            case yf8 => (intro wq hSw; obtain ⟨z1, z2⟩ := hSw; (try simp only [List.getElem_toArray, List.getElem_cons_zero, List.getElem_cons_succ]); go_simp; (try with_reducible rfl); all_goals (try omega))
            case rf8 =>
            try simp only [Act.put, List.setIfInBounds_toArray, List.set_cons_zero, List.set_cons_succ, List.getElem_toArray, List.getElem_cons_zero, List.getElem_cons_succ]
            refine wpAnyH_ready (rs := [9]) (by kernel_rfl) (by simp) ?_
            refine AllReadyH.cons rfl (fun K hK => ?_) AllReadyH.nil
            go_simp
            refine (HF1.out).mono ?_
            rintro e w5 ⟨rfl, F5, g5, h5⟩
            have HB5 := Lib.hid (HBD.out.grow g5 h5)
            have HC5 := Lib.hid (And.intro (HB5.out.cellA hjx) (HB5.out.cellB hjy))
            have HF2 := Lib.hid (free_no w5 F5 D P _ h5 (by omega) (px : Int) (ky : Int) (by omega) (by omega) (fun hh => by
              have := hh.2.2.2.2 px (by omega) (by omega)
              simp only [Bool.and_eq_true] at this
              rw [inR_true (Nat.le_refl _) (by show px < px + ky; omega)] at this
              simp at this))
            clear g5 h5
            refine hK.out _ _ (HCELL w5 HC5.out) (fun _ => ?_)
            clear hK K
            try simp only [Act.put, List.setIfInBounds_toArray, List.set_cons_zero, List.set_cons_succ, List.getElem_toArray, List.getElem_cons_zero, List.getElem_cons_succ]
            refine wpAnyH_take (i := 10) (v := .bool false) rfl (by kernel_rfl) (by kernel_rfl) (by kernel_rfl) (fun _ _ _ h => h) (Or.inl ⟨by rfl, ?yf10⟩) (by assumption) ?rf10
            case yf10 => (intro wq hSw; (try simp only [List.getElem_toArray, List.getElem_cons_zero, List.getElem_cons_succ]); go_simp; (try with_reducible rfl); all_goals (try omega))
            case rf10 =>
            try simp only [Act.put, List.setIfInBounds_toArray, List.set_cons_zero, List.set_cons_succ, List.getElem_toArray, List.getElem_cons_zero, List.getElem_cons_succ]
            refine wpAnyH_take (i := 11) (v := .bool false) rfl (by kernel_rfl) (by kernel_rfl) (by kernel_rfl) (fun _ _ _ h => h) (Or.inl ⟨by rfl, ?yf11⟩) (by assumption) ?rf11
            case yf11 => (intro wq hSw; (try simp only [List.getElem_toArray, List.getElem_cons_zero, List.getElem_cons_succ]); go_simp; (try with_reducible rfl); all_goals (try omega))
            case rf11 =>
            try simp only [Act.put, List.setIfInBounds_toArray, List.set_cons_zero, List.set_cons_succ, List.getElem_toArray, List.getElem_cons_zero, List.getElem_cons_succ]
            refine wpAnyH_take (i := 12) (v := .pointer (some ⟨D, 0, none⟩)) rfl (by kernel_rfl) (by kernel_rfl) (by kernel_rfl) (fun _ _ _ h => h) (Or.inl ⟨by rfl, ?yf12⟩) (by assumption) ?rf12
            case yf12 => (intro wq hSw; (try simp only [List.getElem_toArray, List.getElem_cons_zero, List.getElem_cons_succ]); go_simp; (try with_reducible rfl); all_goals (try omega))
            case rf12 =>
            try simp only [Act.put, List.setIfInBounds_toArray, List.set_cons_zero, List.set_cons_succ, List.getElem_toArray, List.getElem_cons_zero, List.getElem_cons_succ]
            refine wpAnyH_take (i := 13) (v := .slice (some ⟨ga, 0, none⟩) m c1) rfl (by kernel_rfl) (by kernel_rfl) (by kernel_rfl) (fun _ _ _ h => h) (Or.inl ⟨by rfl, ?yf13⟩) (by assumption) ?rf13
            case yf13 => (intro wq hSw; (try simp only [List.getElem_toArray, List.getElem_cons_zero, List.getElem_cons_succ]); go_simp; (try with_reducible rfl); all_goals (try omega))
            case rf13 =>
            try simp only [Act.put, List.setIfInBounds_toArray, List.set_cons_zero, List.set_cons_succ, List.getElem_toArray, List.getElem_cons_zero, List.getElem_cons_succ]
            refine wpAnyH_take (i := 14) (v := .int .i64 (j : Int)) rfl (by kernel_rfl) (by kernel_rfl) (by kernel_rfl) (fun _ _ _ h => h) (Or.inl ⟨by rfl, ?yf14⟩) (by assumption) ?rf14
            case yf14 => (intro wq hSw; (try simp only [List.getElem_toArray, List.getElem_cons_zero, List.getElem_cons_succ]); go_simp; (try with_reducible rfl); all_goals (try omega))
            case rf14 =>
            try simp only [Act.put, List.setIfInBounds_toArray, List.set_cons_zero, List.set_cons_succ, List.getElem_toArray, List.getElem_cons_zero, List.getElem_cons_succ]
            refine wpAnyH_take (i := 15) (v := .pointer (some ⟨ga, j, none⟩)) rfl (by kernel_rfl) (by kernel_rfl) (by kernel_rfl) (fun _ _ _ h => h) (Or.inl ⟨by rfl, ?yf15⟩) (by assumption) ?rf15
            case yf15 => (intro wq hSw; (try simp only [List.getElem_toArray, List.getElem_cons_zero, List.getElem_cons_succ]); go_simp; (try with_reducible rfl); all_goals (try omega))
            case rf15 =>
            try simp only [Act.put, List.setIfInBounds_toArray, List.set_cons_zero, List.set_cons_succ, List.getElem_toArray, List.getElem_cons_zero, List.getElem_cons_succ]
            refine wpAnyH_take (i := 16) (v := .int .i64 (px : Int)) rfl (by kernel_rfl) (by kernel_rfl) (by kernel_rfl) (fun _ _ _ h => h) (Or.inl ⟨by rfl, ?yf16⟩) (by assumption) ?rf16
            case yf16 => (intro wq hSw; obtain ⟨z1, z2⟩ := hSw; (try simp only [List.getElem_toArray, List.getElem_cons_zero, List.getElem_cons_succ]); go_simp; (try with_reducible rfl); all_goals (try omega))
            case rf16 =>
            try simp only [Act.put, List.setIfInBounds_toArray, List.set_cons_zero, List.set_cons_succ, List.getElem_toArray, List.getElem_cons_zero, List.getElem_cons_succ]
            refine wpAnyH_take (i := 17) (v := .slice (some ⟨gb, 0, none⟩) m c2) rfl (by kernel_rfl) (by kernel_rfl) (by kernel_rfl) (fun _ _ _ h => h) (Or.inl ⟨by rfl, ?yf17⟩) (by assumption) ?rf17
            case yf17 => (intro wq hSw; (try simp only [List.getElem_toArray, List.getElem_cons_zero, List.getElem_cons_succ]); go_simp; (try with_reducible rfl); all_goals (try omega))
            case rf17 =>
            try simp only [Act.put, List.setIfInBounds_toArray, List.set_cons_zero, List.set_cons_succ, List.getElem_toArray, List.getElem_cons_zero, List.getElem_cons_succ]
            refine wpAnyH_take (i := 18) (v := .int .i64 (j : Int)) rfl (by kernel_rfl) (by kernel_rfl) (by kernel_rfl) (fun _ _ _ h => h) (Or.inl ⟨by rfl, ?yf18⟩) (by assumption) ?rf18
            case yf18 => (intro wq hSw; (try simp only [List.getElem_toArray, List.getElem_cons_zero, List.getElem_cons_succ]); go_simp; (try with_reducible rfl); all_goals (try omega))
            case rf18 =>
            try simp only [Act.put, List.setIfInBounds_toArray, List.set_cons_zero, List.set_cons_succ, List.getElem_toArray, List.getElem_cons_zero, List.getElem_cons_succ]
            refine wpAnyH_take (i := 19) (v := .pointer (some ⟨gb, j, none⟩)) rfl (by kernel_rfl) (by kernel_rfl) (by kernel_rfl) (fun _ _ _ h => h) (Or.inl ⟨by rfl, ?yf19⟩) (by assumption) ?rf19
            case yf19 => (intro wq hSw; (try simp only [List.getElem_toArray, List.getElem_cons_zero, List.getElem_cons_succ]); go_simp; (try with_reducible rfl); all_goals (try omega))
            case rf19 =>
            try simp only [Act.put, List.setIfInBounds_toArray, List.set_cons_zero, List.set_cons_succ, List.getElem_toArray, List.getElem_cons_zero, List.getElem_cons_succ]
            refine wpAnyH_take (i := 20) (v := .int .i64 (ky : Int)) rfl (by kernel_rfl) (by kernel_rfl) (by kernel_rfl) (fun _ _ _ h => h) (Or.inl ⟨by rfl, ?yf20⟩) (by assumption) ?rf20
            case yf20 => (intro wq hSw; obtain ⟨z1, z2⟩ := hSw; (try simp only [List.getElem_toArray, List.getElem_cons_zero, List.getElem_cons_succ]); go_simp; (try with_reducible rfl); all_goals (try omega))
            case rf20 =>
            try simp only [Act.put, List.setIfInBounds_toArray, List.set_cons_zero, List.set_cons_succ, List.getElem_toArray, List.getElem_cons_zero, List.getElem_cons_succ]
            refine wpAnyH_ready (rs := [21]) (by kernel_rfl) (by simp) ?_
            refine AllReadyH.cons rfl (fun K hK => ?_) AllReadyH.nil
            go_simp
            refine (HF2.out).mono ?_
            rintro e w6 ⟨rfl, T6⟩
            have HB6 := Lib.hid (HB5.out.calm T6)
            have HC6 := Lib.hid (And.intro (HB6.out.cellA hjx) (HB6.out.cellB hjy))
            refine hK.out _ _ (HCELL w6 HC6.out) (fun _ => ?_)
            clear hK K
            try simp only [Act.put, List.setIfInBounds_toArray, List.set_cons_zero, List.set_cons_succ, List.getElem_toArray, List.getElem_cons_zero, List.getElem_cons_succ]
            refine wpAnyH_take (i := 22) (v := .bool false) rfl (by kernel_rfl) (by kernel_rfl) (by kernel_rfl) (fun _ _ _ h => h) (Or.inl ⟨by rfl, ?yf22⟩) (by assumption) ?rf22
            case yf22 => (intro wq hSw; (try simp only [List.getElem_toArray, List.getElem_cons_zero, List.getElem_cons_succ]); go_simp; (try with_reducible rfl); all_goals (try omega))
            case rf22 =>
            try simp only [Act.put, List.setIfInBounds_toArray, List.set_cons_zero, List.set_cons_succ, List.getElem_toArray, List.getElem_cons_zero, List.getElem_cons_succ]
            refine wpAnyH_done (by kernel_rfl) ?_ _
            go_wp2_with fail
            go_roundw
            case measure => simp [intOf]; omega
            case rel => exact ⟨j + 1, F5, by omega, by simp, HQ3.out, { HB6.out with map := HB6.out.map.ext HU.out }⟩
          · obtain rfl : j = m := by omega
            have hjI : ¬ ((j : Int) < (j : Int)) := by omega
            have hdn : A.drop j = [] := List.drop_of_length_le (by rw [HAM.out]; exact Nat.le_refl _)
            have HLF := Lib.hid (show Calls Try.prog 14 #[.pointer (some ⟨D, 0, none⟩)] wr (None wr (.int .i64 (P : Int))) from by
              have := left_h wr F D P _ HBJ.out.map (by omega)
              rw [hdn] at this
              have e := cnt_not (UA []) P
              have e2 : cnt (UA []) P = 0 := cnt_none P
              rw [show cnt (fun p => !UA [] p) P = P by omega] at this
              exact this)
            have HTT := Lib.hid HBJ.out.turn
            clear hdn
            go_wp2_with fail
            refine (HLF.out).mono ?_
            rintro e w5 ⟨rfl, T5⟩
            go_wp2_with fail
            go_ret
            exact ⟨rfl, ((T1.trans HTT.out (fun _ _ => id)).trans T5 (fun _ _ => id))⟩
end Go.Proofs.Ytmhdcpkncaghpaa
