/- Own texts, packed: Or3, Or4. No statement is proved here. -/
import Derived.Test.YtkciaafkhpjnaaaQ25
import Derived.Test.YtkciaafkhpjnaaaQ20
import Derived.Test.YtkciaafkhpjnaaaQ28
import Derived.Deep.RegionHeld3
namespace Go.Proofs.Ytkciaafkhpjnaaa
set_option maxRecDepth 100000
open Go.RowKit
set_option linter.unusedVariables false
set_option linter.unusedSimpArgs false

/-- What the document's Diff tells. -/
def DifP (w : World) (r : List Ed × Int) (e : Ending) (w' : World) : Prop := ∃ v, e = .returned (.tuple #[v, .int .i64 r.2]) ∧ EdV w' v r.1 ∧ Turn (fun _ => False) w w'
theorem own_ty24 {w : World} {base : Nat} {v : Value} {n : Nat} {xs : List Value} (h : w.ownsRow base 38 10 v n xs) : Ty24 w v := fun q hq => by
  rcases h.2 with ⟨rfl, _⟩ | ⟨g, cap, cur, rfl, _, hg, _⟩
  · cases hq
  · injection hq with hq
    exact ⟨cur, by rw [← hq]; exact hg⟩
theorem ord_len (c w : List El) (hc : c.length ≤ 60) : (ordE c w).length ≤ 10000 := by
  have h := rounds_len w c (c.length + 1)
  have h2 : (c.length + 1) * c.length ≤ 61 * 60 := Nat.mul_le_mul (by omega) hc
  show (roundsO w c (c.length + 1)).length ≤ _
  omega
theorem exec_edS (ev : Operand → Value) (op : Oper) (a0 a1 a2 a3 a4 : Operand) (n f on nn : Int) (os ns : ByteArray) (e : El) (ho : op.op = .build 53 #[(0, a0), (1, a1), (2, a2), (3, a3), (4, a4)]) (h0 : ev a0 = .int .u8 n) (h1 : ev a1 = .agg e.vals.toArray) (h2 : ev a2 = .int .i64 f) (h3 : ev a3 = .agg (vl on os).toArray) (h4 : ev a4 = .agg (vl nn ns).toArray) (w : World) : (execOp ev op).run Try.prog w = .ok (.value (.agg (Ed.mk n e f on os nn ns).vals.toArray)) w := by
  have : (Instr.build 53 #[(0, .int .u8 n), (1, .agg e.vals.toArray), (2, .int .i64 f), (3, .agg (vl on os).toArray), (4, .agg (vl nn ns).toArray)]).run Try.prog w = .ok (.agg (Ed.mk n e f on os nn ns).vals.toArray) w := by kernel_rfl
  unfold execOp
  simp only [ho, List.map_toArray, List.map_cons, List.map_nil, h0, h1, h2, h3, h4, Sem.run_bind, Sem.run_pure, this, Result.andThen_ok]
theorem diff_form {a b : List El} (h1 : risesB a = false ∨ risesB b = false) : diffE a b = ([], 7) := by
  unfold diffE
  rw [if_pos (by rcases h1 with h | h <;> rw [h] <;> simp)]
theorem diff_par {a b : List El} (h1 : risesB a = true) (h2 : risesB b = true) (h : ordOk b a = false ∨ ordOk a b = false) : diffE a b = ([], 14) := by
  unfold diffE
  rw [if_neg (by rw [h1, h2]; simp), if_pos (by rcases h with h | h <;> rw [h] <;> simp)]
theorem diff_ok {a b : List El} (h1 : risesB a = true) (h2 : risesB b = true) (h3 : ordOk b a = true) (h4 : ordOk a b = true) : diffE a b = ((ordE b a).map addD ++ (setsE a b ++ (ordE a b).reverse.map dropD), 0) := by
  unfold diffE
  rw [if_neg (by rw [h1, h2]; simp), if_neg (by rw [h3, h4]; simp)]
theorem setsE_len (a b : List El) : (setsE a b).length ≤ 9 * a.length := by
  unfold setsE
  induction a with
  | nil => simp
  | cons x a ih =>
    have : (setsAt b x).length ≤ 9 := by
      unfold setsAt
      split
      · unfold setsOf setsUpto
        rw [List.length_map]
        exact Nat.le_trans (List.length_filter_le _ _) (by simp)
      · simp
    rw [List.flatMap_cons, List.length_append, List.length_cons]
    omega

end Go.Proofs.Ytkciaafkhpjnaaa
namespace Go.Proofs.Ytkciaafkhpjnaaa
set_option maxRecDepth 100000
open Go.RowKit
set_option linter.unusedVariables false
set_option linter.unusedSimpArgs false

theorem blk_ne {w : World} {base B : Nat} {yv : Value} {ys : List Ed} {cs : Array Value} {T : TypeId} (hy : OwE base w yv ys) (hB : w.heap[B]? = some (.cells cs T (0, 0))) (hT : T ≠ 53) : ¬ yv.ownBlock = some B := fun e => by
  rcases hy.2 with ⟨rfl, _⟩ | ⟨g, cap, cur, rfl, _, h3, _⟩
  · cases e
  · injection e with e
    subst e
    rw [hB] at h3
    injection h3 with h3
    injection h3 with _ h4 _
    exact hT h4
theorem ChV.ne {w0 w : World} {v yv : Value} {l : List El} {ys : List Ed} (h : ChV w0 w v l) (hy : OwE w0.heap.size w yv ys) (h0 : 0 < l.length) {q : Nat} (hq : v.ownBlock = some q) : ¬ yv.ownBlock = some q := fun e => by
  rcases h.2 h0 q hq with h1 | ⟨cs, h1⟩
  · rcases hy.2 with ⟨rfl, _⟩ | ⟨g, cap, cur, rfl, hg, hh, _⟩
    · cases e
    · injection e with e
      subst e
      exact absurd h1 (Nat.not_lt.2 hg)
  · exact blk_ne hy h1 (by decide) e
theorem setsUpto_len (x y : El) (f : Nat) : (setsUpto x y f).length ≤ f := by
  unfold setsUpto
  rw [List.length_map]
  exact Nat.le_trans (List.length_filter_le _ _) (by simp)
/-- The four charts that Diff holds beside its row. -/
def Four (w0 w : World) (va vb vp vq : Value) (a b p q : List El) : Prop := ChV w0 w va a ∧ ChV w0 w vb b ∧ ChV w0 w vp p ∧ ChV w0 w vq q
theorem Four.turn {w0 w w' : World} {va vb vp vq : Value} {a b p q : List El} (h : Four w0 w va vb vp vq a b p q) (t : Turn (fun _ => False) w w') : Four w0 w' va vb vp vq a b p q := ⟨h.1.turn t, h.2.1.turn t, h.2.2.1.turn t, h.2.2.2.turn t⟩
theorem Four.own {w0 w w' : World} {va vb vp vq yv : Value} {a b p q : List El} {ys : List Ed} (h : Four w0 w va vb vp vq a b p q) (hy : OwE w0.heap.size w yv ys) (t : Turn (fun q => yv.ownBlock = some q) w w') : Four w0 w' va vb vp vq a b p q := ⟨h.1.own hy t, h.2.1.own hy t, h.2.2.1.own hy t, h.2.2.2.own hy t⟩
set_option maxHeartbeats 8000000 in
theorem rdiff_any (w : World) (va vb : Value) (a b : List El) (ha : RowV w va a) (hb : RowV w vb b) (hka : KOk a) (hkb : KOk b) (hla : a.length ≤ 60) (hlb : b.length ≤ 60) : Calls Try.prog 16 #[va, vb] w (DifP w (diffE a b)) := by
  obtain ⟨la, lc, rfl⟩ := ha.form
  obtain ⟨n, hn⟩ : ∃ n, a.length = n := ⟨_, rfl⟩
  obtain ⟨ua, uc, rfl⟩ := hb.form
  obtain ⟨m, hm⟩ : ∃ m, b.length = m := ⟨_, rfl⟩
  simp only [hn] at ha hla ⊢
  simp only [hm] at hb hlb ⊢
  have HA := Lib.hid ha
  have HB := Lib.hid hb
  have HKA := Lib.hid hka
  have HKB := Lib.hid hkb
  have HN := Lib.hid hn
  have HM := Lib.hid hm
  have HL := Lib.hid (show a.length ≤ 60 ∧ b.length ≤ 60 by omega)
  clear ha hb hka hkb hn hm
  go_enter Try.func16, Try.ntmps16
  go_wp2_with fail
  refine (rrises_any w _ a HA.out (by have := HL.out; omega)).mono ?_
  rintro r w1 ⟨rfl, t1⟩
  have T1 := Lib.hid t1
  clear t1
  cases ra : risesB a
  · have HD := Lib.hid (diff_form (a := a) (b := b) (.inl ra))
    clear ra
    go_wp2_with fail
    go_ret2
    refine ⟨_, by rw [HD.out]; rfl, by rw [HD.out]; exact .inl ⟨rfl, rfl⟩, T1.out⟩
  · go_wp2_with (go_at_call 37; refine (rrises_any w1 _ b (HB.out.turn T1.out (fun _ _ => id)) (by have := HL.out; omega)).mono ?_; rintro r w2 ⟨rfl, t2⟩; have T2 := Lib.hid (T1.out.trans t2 (fun _ _ => id)); clear t2; refine still ?_)
    unfold Still
    cases rb : risesB b
    · have HD := Lib.hid (diff_form (a := a) (b := b) (.inr rb))
      clear ra rb
      go_wp2_with fail
      go_ret2
      refine ⟨_, by rw [HD.out]; rfl, by rw [HD.out]; exact .inl ⟨rfl, rfl⟩, T2.out⟩
    · have HRA := Lib.hid ((risesB_iff a).1 ra)
      have HRB := Lib.hid ((risesB_iff b).1 rb)
      go_wp2_with fail
      refine (rorder_any w2 _ _ b a (HB.out.turn T2.out (fun _ _ => id)) (HA.out.turn T2.out (fun _ _ => id)) HRB.out HRA.out (by have := HL.out; omega) (by have := HL.out; omega)).mono ?_
      rintro r w3 ⟨v6, rfl, o6, t3⟩
      have T3 := Lib.hid (T2.out.trans t3 (fun _ _ => id))
      have CP := Lib.hid (ChV.new (w0 := w) (own_rowV o6) (own_ty24 o6))
      obtain ⟨P, hP⟩ : ∃ P, ordE b a = P := ⟨_, rfl⟩
      have hpl := ord_len b a HL.out.2
      rw [hP] at CP hpl o6
      have HP := Lib.hid hP
      have HPL := Lib.hid hpl
      obtain ⟨p, hp⟩ : ∃ p, P.length = p := ⟨_, rfl⟩
      obtain ⟨pa, pc, rfl⟩ : ∃ x y, v6 = .slice x p y := by rw [← hp]; exact (own_rowV o6).form
      have HPN := Lib.hid hp
      clear t3 o6 hP hpl hp
      go_wp2_with fail
      refine (rorder_any w3 _ _ a b (HA.out.turn T3.out (fun _ _ => id)) (HB.out.turn T3.out (fun _ _ => id)) HRA.out HRB.out (by have := HL.out; omega) (by have := HL.out; omega)).mono ?_
      rintro r w4 ⟨v8, rfl, o8, t4⟩
      have T4 := Lib.hid (T3.out.trans t4 (fun _ _ => id))
      have CQ := Lib.hid (ChV.new (w0 := w) (own_rowV o8) (own_ty24 o8))
      obtain ⟨Q, hQ⟩ : ∃ Q, ordE a b = Q := ⟨_, rfl⟩
      have hql := ord_len a b HL.out.1
      rw [hQ] at CQ hql o8
      have HQ := Lib.hid hQ
      have HQL := Lib.hid hql
      obtain ⟨q, hq⟩ : ∃ q, Q.length = q := ⟨_, rfl⟩
      obtain ⟨qa, qc, rfl⟩ : ∃ x y, v8 = .slice x q y := by rw [← hq]; exact (own_rowV o8).form
      have HQN := Lib.hid hq
      have HF := Lib.hid (show Four w w4 (.slice la n lc) (.slice ua m uc) (.slice pa p pc) (.slice qa q qc) a b P Q from ⟨ChV.arg HA.out T4.out, ChV.arg HB.out T4.out, CP.out.turn t4, CQ.out⟩)
      clear t4 o8 hQ hql hq
      cases ob : ordOk b a
      · have HD := Lib.hid (diff_par ra rb (.inl ob))
        clear ra rb ob
        go_wp2_with fail
        go_ret2
        refine ⟨_, by rw [HD.out]; rfl, by rw [HD.out]; exact .inl ⟨rfl, rfl⟩, T4.out⟩
      · cases oa : ordOk a b
        · have HD := Lib.hid (diff_par ra rb (.inr oa))
          clear ra rb ob oa
          go_wp2_with fail
          go_ret2
          refine ⟨_, by rw [HD.out]; rfl, by rw [HD.out]; exact .inl ⟨rfl, rfl⟩, T4.out⟩
        · have HD := Lib.hid (diff_ok ra rb ob oa)
          rw [HP.out, HQ.out] at HD
          clear ra rb ob oa
          have hp1 : p ≤ 10000 := by have := HPL.out; have := HPN.out; omega
          have hq1 : q ≤ 10000 := by have := HQL.out; have := HQN.out; omega
          go_wp2_with fail
          go_loopw [10, 11] (fun lv iv wr => ∃ k : Nat, k ≤ p ∧ iv = .int .i64 (k : Int) ∧ OwE w.heap.size wr lv ((P.take k).map addD) ∧ Four w wr (.slice la n lc) (.slice ua m uc) (.slice pa p pc) (.slice qa q qc) a b P Q ∧ Turn (fun _ => False) w wr) (fun _ iv _ => p - (intOf iv).toNat)
          case atStart => exact ⟨0, Nat.zero_le _, rfl, World.ownsRow_nil _ _ _ _, HF.out, T4.out⟩
          case round =>
            obtain ⟨k, hkp, rfl, how, hf, htr⟩ := hrel
            have HOW := Lib.hid how
            have HFO := Lib.hid hf
            have HT := Lib.hid htr
            clear how hf htr
            by_cases hlt : k < p
            · have gi : (0 : Int) ≤ (k : Int) ∧ (k : Int) < (p : Int) := by omega
              have dk : decide ((k : Int) < (p : Int)) = true := decide_eq_true (by omega)
              have hsn := take_snoc P k (by rw [HPN.out]; exact hlt)
              obtain ⟨g, o, rfl, hcc, hs⟩ := HFO.out.2.2.1.1.one HPN.out k hlt
              obtain ⟨x, hx⟩ : ∃ x, P.getD k el0 = x := ⟨_, rfl⟩
              rw [hx] at hs hsn
              have HS := Lib.hid hs
              have HSN := Lib.hid hsn
              clear hx hs hsn hcc
              go_wp2_with (with_reducible (show wpList _ _ _ (Oper.mk (some 54) (.load 38 (.tmp 53)) _ _ _ _ :: _) _ _); refine still ?_)
              refine wpList_load_mid rfl 38 (.tmp 53) rfl g (o + k * 10) rfl x.vals _ HS.out Try.underlying38 rfl el_info ?_
              go_wp2_with (with_reducible (show wpList _ _ _ (Oper.mk (some 55) (.build 53 _) _ _ _ _ :: _) _ _); refine still ?_)
              refine list_exec rfl _ _ (exec_edB _ _ _ _ 1 x rfl rfl rfl _) ?_
              obtain ⟨vy, wy, hry, hoy, ty, ay, cy, hvy⟩ := app_one_ed wr w.heap.size 28 28 Try.underlying28 u10 ((P.take k).map addD) (addD x) HOW.out (by have := HT.out.size; omega) (by rw [List.length_map, List.length_take]; omega)
              subst hvy
              obtain ⟨cl, hcl⟩ : ∃ cl, ((P.take k).map addD).length = cl := ⟨_, rfl⟩
              rw [hcl] at hry
              have hoy : OwE w.heap.size wy (.slice ay (cl + 1) cy) (((P.take k).map addD) ++ [(addD x)]) := by unfold OwE; rw [← hcl]; exact hoy
              clear hcl
              have HRY := Lib.hid hry
              have HOY := Lib.hid hoy
              have FY := Lib.hid (HFO.out.own HOW.out ty)
              have TY := Lib.hid (turn_on_ed HOW.out (Nat.le_refl _) HT.out ty)
              clear hry hoy ty
              go_wp2_with (with_reducible (show wpList _ _ _ (Oper.mk (some 56) (.buildSlice 28 _ _) _ _ _ _ :: _) _ _); refine still ?_)
              refine list_exec rfl _ _ (exec_build_one_ed _ _ (.tmp 55) 28 Try.underlying28 rfl (addD x) rfl _) ?_
              go_wp2_with (with_reducible (show wpList _ _ _ (Oper.mk (some 57) (_) _ _ _ _ :: _) _ _); refine still ?_)
              refine list_exec rfl _ _ (exec_append _ _ (.tmp 50) (.tmp 56) 28 rfl _ _ _ _ _ rfl rfl HRY.out) ?_
              go_wp2_with fail
              go_roundw
              case rel => exact ⟨k + 1, by omega, by go_num, by rw [HSN.out, List.map_append]; exact HOY.out, FY.out, TY.out⟩
              case measure => simp [intOf]; omega
            · have hke : k = p := by omega
              subst hke
              have HO2 := Lib.hid (show OwE w.heap.size wr u10 (P.map addD) by have := HOW.out; rwa [List.take_of_length_le (by rw [HPN.out]; omega)] at this)
              clear hkp hlt
              obtain ⟨A, hA⟩ : ∃ A, P.map addD = A := ⟨_, rfl⟩
              have HAL := Lib.hid (show A.length ≤ 10000 by rw [← hA, List.length_map, HPN.out]; exact hp1)
              rw [hA] at HO2 HD
              clear hA
              go_wp2_with fail
              go_loopw [10, 12] (fun lv iv ws => ∃ i : Nat, i ≤ n ∧ iv = .int .i64 (i : Int) ∧ OwE w.heap.size ws lv (A ++ setsE (a.take i) b) ∧ Four w ws (.slice la n lc) (.slice ua m uc) (.slice pa k pc) (.slice qa q qc) a b P Q ∧ Turn (fun _ => False) w ws) (fun _ iv _ => n - (intOf iv).toNat)
              case atStart => exact ⟨0, Nat.zero_le _, rfl, by have := HO2.out; simpa [setsE] using this, HFO.out, HT.out⟩
              case round =>
                obtain ⟨i, hin, rfl, how2, hf2, htr2⟩ := hrel
                have HFO2 := Lib.hid hf2
                have HT2 := Lib.hid htr2
                have hsl := setsE_len (a.take i) b
                rw [List.length_take, HN.out] at hsl
                have HCL := Lib.hid (show (A ++ setsE (a.take i) b).length ≤ 20000 by rw [List.length_append]; have := HAL.out; omega)
                clear hf2 htr2 hsl
                by_cases hlt : i < n
                · have gi : (0 : Int) ≤ (i : Int) ∧ (i : Int) < (n : Int) := by omega
                  have di : decide ((i : Int) < (n : Int)) = true := decide_eq_true (by omega)
                  have hsn : A ++ setsE (a.take (i + 1)) b = (A ++ setsE (a.take i) b) ++ setsAt b (a.getD i el0) := by
                    rw [take_snoc a i (by rw [HN.out]; exact hlt)]; unfold setsE; rw [List.flatMap_append, List.append_assoc]; simp
                  obtain ⟨C, hC⟩ : ∃ C, A ++ setsE (a.take i) b = C := ⟨_, rfl⟩
                  rw [hC] at hsn how2 HCL
                  have HOC := Lib.hid how2
                  obtain ⟨g, o, e1, hcc, hs⟩ := HFO2.out.1.1.one HN.out i hlt
                  subst e1
                  have hkx := HKA.out _ (getD_mem (l := a) (k := i) (by rw [HN.out]; exact hlt))
                  obtain ⟨x, hx⟩ : ∃ x, a.getD i el0 = x := ⟨_, rfl⟩
                  rw [hx] at hs hsn hkx
                  have HXE := Lib.hid hx
                  have HKX := Lib.hid hkx
                  have c0 := range0 hs
                  clear hx hs hkx hcc hC how2
                  go_wp2_with fail
                  refine (rfind3 wr _ b x.id HFO2.out.2.1.1 HRB.out (by have := HL.out; omega)).mono ?_
                  rintro r0 wa ⟨rfl, jv, rfl, hj, hkk⟩
                  obtain ⟨hb, hhb⟩ : ∃ t, hasB b x.id = t := ⟨_, rfl⟩
                  rw [hhb] at hj hkk
                  clear c0
                  cases hb
                  · have HSN := Lib.hid (show A ++ setsE (a.take (i + 1)) b = C by rw [hsn]; unfold setsAt; rw [getE_none.2 (hasB_no.1 hhb)]; simp)
                    clear hsn hkk hhb
                    go_wp2_with fail
                    go_loopw [10, 14] (fun lv fv ws => lv = u10 ∧ fv = .int .i64 0 ∧ wr = ws) (fun _ _ _ => 0)
                    case atStart => exact ⟨rfl, rfl, rfl⟩
                    case round =>
                      obtain ⟨rfl, rfl, rfl⟩ := hrel
                      go_wp2_with fail
                      go_roundw
                      case rel => exact ⟨i + 1, by omega, by go_num, by rw [HSN.out]; exact HOC.out, HFO2.out, HT2.out⟩
                      case measure => simp [intOf]; omega
                  · obtain ⟨kk, hkl, rfl, hki⟩ := hkk rfl
                    rw [HM.out] at hkl
                    have hky := HKB.out _ (getD_mem (l := b) (k := kk) (by rw [HM.out]; exact hkl))
                    have hyb := getD_mem (l := b) (k := kk) (by rw [HM.out]; exact hkl)
                    obtain ⟨y, hy⟩ : ∃ y, b.getD kk el0 = y := ⟨_, rfl⟩
                    rw [hy] at hky hyb hki
                    have HYE := Lib.hid hy
                    have HKY := Lib.hid hky
                    have HSN := Lib.hid (show A ++ setsE (a.take (i + 1)) b = C ++ setsUpto x y 9 by rw [hsn]; unfold setsAt; rw [(getE_iff HRB.out).2 ⟨hyb, hki⟩]; rfl)
                    have gk : (0 : Int) ≤ (kk : Int) ∧ (kk : Int) < (m : Int) := by omega
                    have dk2 : decide (0 ≤ (kk : Int)) = true := decide_eq_true (by omega)
                    clear hsn hhb hj hy hky hyb hki
                    go_wp2_with fail
                    go_loopw [10, 14] (fun lv fv ws => ∃ f : Nat, f ≤ 9 ∧ fv = .int .i64 (f : Int) ∧ OwE w.heap.size ws lv (C ++ setsUpto x y f) ∧ Four w ws (.slice (some ⟨g, o, none⟩) n lc) (.slice ua m uc) (.slice pa k pc) (.slice qa q qc) a b P Q ∧ Turn (fun _ => False) w ws) (fun _ fv _ => 9 - (intOf fv).toNat)
                    case atStart => exact ⟨0, by omega, rfl, by have := HOC.out; simpa [setsUpto] using this, HFO2.out, HT2.out⟩
                    case round =>
                      obtain ⟨f, hf9, rfl, how3, hf3, htr3⟩ := hrel
                      have HOW3 := Lib.hid how3
                      have HFO3 := Lib.hid hf3
                      have HT3 := Lib.hid htr3
                      clear how3 hf3 htr3
                      by_cases hlf : f < 9
                      · have df : decide ((f : Int) < 9) = true := decide_eq_true (by omega)
                        obtain ⟨g9, o9, e1, hcc, hs⟩ := HFO3.out.1.1.one HN.out i hlt
                        injection e1 with e1
                        injection e1 with e11 e12 _
                        subst e11 e12
                        obtain ⟨g2, o2, e2, hcc2, hs2⟩ := HFO3.out.2.1.1.one HM.out kk hkl
                        subst e2
                        rw [HXE.out] at hs
                        rw [HYE.out] at hs2
                        have HS := Lib.hid hs
                        have HS2 := Lib.hid hs2
                        have hsu := setsUpto_succ x y f
                        obtain ⟨pf, hpf⟩ : ∃ b, partF x y f = b := ⟨_, rfl⟩
                        rw [hpf] at hsu
                        have HPF := Lib.hid hpf
                        have HSU := Lib.hid hsu
                        clear hs hs2 hcc hcc2 hsu hpf
                        go_wp2_with (with_reducible (show wpList _ _ _ (Oper.mk (some 82) (.load 38 (.tmp 81)) _ _ _ _ :: _) _ _); refine still ?_)
                        refine wpList_load_mid rfl 38 (.tmp 81) rfl g (o + i * 10) rfl x.vals _ HS.out Try.underlying38 rfl el_info ?_
                        go_wp2_with fail
                        refine (value_any wr x (f : Int) HKX.out).mono ?_
                        rintro r0 wa ⟨rfl, ta⟩
                        have FA := Lib.hid ta
                        clear ta
                        obtain ⟨V1, hV1⟩ : ∃ Z, wa.heap.size = Z := ⟨_, rfl⟩
                        obtain ⟨wb, hwb⟩ : ∃ wz, wa.alloc (.cells (vl 0 e0).toArray 51) = wz := ⟨_, rfl⟩
                        have hx1 : ∀ ev op, op.op = .alloc 51 → (execOp ev op).run Try.prog wa = .ok (.value (.pointer (some ⟨V1, 0, none⟩))) wb := fun ev op ho => by rw [← hwb, ← hV1]; exact exec_zero37 ev op ho _
                        have hb1 := box_alloc wa 51 (vl 0 e0)
                        rw [hwb] at hb1
                        have hh1 := hb1.heap
                        rw [hV1] at hh1
                        have HXX1 := Lib.hid hx1
                        have HB1 := Lib.hid hb1
                        have HH1 := Lib.hid hh1
                        have HE1 := Lib.hid hV1
                        clear hb1 hV1 hwb hx1 hh1
                        go_wp2_with (with_reducible (show wpList _ _ _ (Oper.mk (some 15) (.alloc 51) _ _ _ _ :: _) _ _); refine still ?_)
                        refine list_exec rfl _ _ (HXX1.out _ _ rfl) ?_
                        go_wp2_with (with_reducible (show wpList _ _ _ (Oper.mk none (.store 51 (.tmp 15) (.tmp 84)) _ _ _ _ :: _) _ _); refine still ?_)
                        refine list_put wb V1 51 (vl 0 e0) (vl (getN x (f : Int)) (getS x (f : Int))) HH1.out rfl (vl_one _ _) vl_info rfl (.tmp 15) (.tmp 84) rfl rfl rfl (fun wc hc tc => ?_)
                        have HV1 := Lib.hid hc
                        have FC := Lib.hid (FA.out.trans (HB1.out.turn.trans tc (fun q hq e => by have := HE1.out; omega)) (fun _ _ => id))
                        clear hc tc
                        go_wp2_with (with_reducible (show wpList _ _ _ (Oper.mk (some 88) (.load 38 (.tmp 87)) _ _ _ _ :: _) _ _); refine still ?_)
                        refine wpList_load_mid rfl 38 (.tmp 87) rfl g2 (o2 + kk * 10) rfl y.vals _ (rangeAt_turn HS2.out FC.out id) Try.underlying38 rfl el_info ?_
                        go_wp2_with fail
                        refine (value_any wc y (f : Int) HKY.out).mono ?_
                        rintro r1 wd ⟨rfl, td⟩
                        have FD := Lib.hid td
                        clear td
                        obtain ⟨V2, hV2⟩ : ∃ Z, wd.heap.size = Z := ⟨_, rfl⟩
                        obtain ⟨we, hwe⟩ : ∃ wz, wd.alloc (.cells (vl 0 e0).toArray 51) = wz := ⟨_, rfl⟩
                        have hx2 : ∀ ev op, op.op = .alloc 51 → (execOp ev op).run Try.prog wd = .ok (.value (.pointer (some ⟨V2, 0, none⟩))) we := fun ev op ho => by rw [← hwe, ← hV2]; exact exec_zero37 ev op ho _
                        have hb2 := box_alloc wd 51 (vl 0 e0)
                        rw [hwe] at hb2
                        have hh2 := hb2.heap
                        rw [hV2] at hh2
                        have HXX2 := Lib.hid hx2
                        have HB2 := Lib.hid hb2
                        have HH2 := Lib.hid hh2
                        have HE2 := Lib.hid hV2
                        clear hb2 hV2 hwe hx2 hh2
                        go_wp2_with (with_reducible (show wpList _ _ _ (Oper.mk (some 16) (.alloc 51) _ _ _ _ :: _) _ _); refine still ?_)
                        refine list_exec rfl _ _ (HXX2.out _ _ rfl) ?_
                        go_wp2_with (with_reducible (show wpList _ _ _ (Oper.mk none (.store 51 (.tmp 16) (.tmp 90)) _ _ _ _ :: _) _ _); refine still ?_)
                        refine list_put we V2 51 (vl 0 e0) (vl (getN y (f : Int)) (getS y (f : Int))) HH2.out rfl (vl_one _ _) vl_info rfl (.tmp 16) (.tmp 90) rfl rfl rfl (fun wf hf2 tf => ?_)
                        have HV2 := Lib.hid hf2
                        have FF := Lib.hid (FD.out.trans (HB2.out.turn.trans tf (fun q hq e => by have := HE2.out; omega)) (fun _ _ => id))
                        clear hf2 tf
                        have HV1f := Lib.hid ((FF.out.block V1 (Array.getElem?_eq_some_iff.1 HV1.out).1 id).trans HV1.out)
                        have FW := Lib.hid (FC.out.trans FF.out (fun _ _ => id))
                        have TW := Lib.hid (HT3.out.trans FW.out (fun _ _ => id))
                        have OW := Lib.hid (HOW3.out.turn FW.out (fun _ _ => id))
                        have FO := Lib.hid (HFO3.out.turn FW.out)
                        have HSf := Lib.hid (rangeAt_turn HS.out FW.out id)
                        go_wp2_with (with_reducible (show wpList _ _ _ (Oper.mk (some 91) (.load 51 (.tmp 15)) _ _ _ _ :: _) _ _); refine still ?_)
                        refine wpList_load_mid rfl 51 (.tmp 15) rfl V1 0 rfl (vl (getN x (f : Int)) (getS x (f : Int))) _ (range_of HV1f.out) Try.underlying51 rfl vl_info ?_
                        go_wp2_with (with_reducible (show wpList _ _ _ (Oper.mk (some 92) (.load 51 (.tmp 16)) _ _ _ _ :: _) _ _); refine still ?_)
                        refine wpList_load_mid rfl 51 (.tmp 16) rfl V2 0 rfl (vl (getN y (f : Int)) (getS y (f : Int))) _ (range_of HV2.out) Try.underlying51 rfl vl_info ?_
                        go_wp2_with (with_reducible (show wpList _ _ _ (Oper.mk (some 93) (_) _ _ _ _ :: _) _ _); refine still ?_)
                        refine list_exec rfl _ _ (exec_neq_vl _ _ rfl _ _ _ _ _ rfl rfl) ?_
                        rw [show (!decide (getN x (f : Int) = getN y (f : Int) ∧ getS x (f : Int) = getS y (f : Int))) = pf from HPF.out]
                        cases pf
                        · go_wp2_with fail
                          go_roundw
                          case rel => exact ⟨f + 1, by omega, by go_num, by rw [HSU.out, if_neg (by decide)]; exact OW.out, FO.out, TW.out⟩
                          case measure => simp [intOf]; omega
                        · obtain ⟨wx, hwx⟩ : ∃ wx, wf.drew = wx := ⟨_, rfl⟩
                          have hdx : Turn (fun _ => False) wf wx := by rw [← hwx]; exact (Turn.refl (fun _ => False) wf).drew
                          have OX := Lib.hid (OW.out.turn hdx (fun _ _ => id))
                          have FX := Lib.hid (FO.out.turn hdx)
                          have TX := Lib.hid (TW.out.trans hdx (fun _ _ => id))
                          have HSx := Lib.hid (rangeAt_turn HSf.out hdx id)
                          have HV1x := Lib.hid ((hdx.block V1 (Array.getElem?_eq_some_iff.1 HV1f.out).1 id).trans HV1f.out)
                          have HV2x := Lib.hid ((hdx.block V2 (Array.getElem?_eq_some_iff.1 HV2.out).1 id).trans HV2.out)
                          have HWX := Lib.hid hwx
                          have NG := Lib.hid (FX.out.1.ne OX.out (by rw [HN.out]; omega) (q := g) rfl)
                          have N1 := Lib.hid (blk_ne OX.out HV1x.out (by decide))
                          have N2 := Lib.hid (blk_ne OX.out HV2x.out (by decide))
                          clear hdx hwx
                          obtain ⟨vy, wy, hry, hoy, ty, ay, cy, hvy⟩ := app_one_ed wx w.heap.size 28 28 Try.underlying28 u10 (C ++ setsUpto x y f) (setD x y (f : Int)) OX.out (by have := TX.out.size; omega) (by rw [List.length_append]; have := HCL.out; have := setsUpto_len x y f; omega)
                          subst hvy
                          obtain ⟨cl, hcl⟩ : ∃ cl, (C ++ setsUpto x y f).length = cl := ⟨_, rfl⟩
                          rw [hcl] at hry
                          have hoy : OwE w.heap.size wy (.slice ay (cl + 1) cy) ((C ++ setsUpto x y f) ++ [(setD x y (f : Int))]) := by unfold OwE; rw [← hcl]; exact hoy
                          clear hcl
                          have HRY := Lib.hid hry
                          have HOY := Lib.hid hoy
                          have TYO := Lib.hid ty
                          have FY := Lib.hid (FX.out.own OX.out ty)
                          have TY := Lib.hid (turn_on_ed OX.out (Nat.le_refl _) TX.out ty)
                          clear hry hoy ty
                          go_wp2_with fail
                          refine wp_region_held_drew (S := fun wq => wq.rangeAt g (o + i * 10) x.vals ∧ wq.rangeAt V1 0 (vl (getN x (f : Int)) (getS x (f : Int))) ∧ wq.rangeAt V2 0 (vl (getN y (f : Int)) (getS y (f : Int)))) (by kernel_rfl) (by rw [HWX.out]; exact ⟨HSx.out, range_of HV1x.out, range_of HV2x.out⟩) (fun hHeld => ?_)
                          rw [HWX.out] at hHeld ⊢
                          refine wpAnyH_take (i := 0) (v := u10) rfl (by kernel_rfl) (by kernel_rfl) (by kernel_rfl) (fun _ _ _ h => h) (Or.inl ⟨by rfl, ?yq1⟩) (by assumption) ?rq1
                          case yq1 => (intro wq hSw; (try simp only [List.getElem_toArray, List.getElem_cons_zero, List.getElem_cons_succ]); go_simp; (try with_reducible rfl); all_goals (try omega))
                          case rq1 =>
                          try simp only [Act.put, List.setIfInBounds_toArray, List.set_cons_zero, List.set_cons_succ, List.getElem_toArray, List.getElem_cons_zero, List.getElem_cons_succ]
                          refine wpAnyH_take (i := 1) (v := .slice (some ⟨g, o, none⟩) n lc) rfl (by kernel_rfl) (by kernel_rfl) (by kernel_rfl) (fun _ _ _ h => h) (Or.inl ⟨by rfl, ?yq2⟩) (by assumption) ?rq2
                          case yq2 => (intro wq hSw; (try simp only [List.getElem_toArray, List.getElem_cons_zero, List.getElem_cons_succ]); go_simp; (try with_reducible rfl); all_goals (try omega))
                          case rq2 =>
                          try simp only [Act.put, List.setIfInBounds_toArray, List.set_cons_zero, List.set_cons_succ, List.getElem_toArray, List.getElem_cons_zero, List.getElem_cons_succ]
                          refine wpAnyH_take (i := 2) (v := .int .i64 (i : Int)) rfl (by kernel_rfl) (by kernel_rfl) (by kernel_rfl) (fun _ _ _ h => h) (Or.inl ⟨by rfl, ?yq3⟩) (by assumption) ?rq3
                          case yq3 => (intro wq hSw; (try simp only [List.getElem_toArray, List.getElem_cons_zero, List.getElem_cons_succ]); go_simp; (try with_reducible rfl); all_goals (try omega))
                          case rq3 =>
                          try simp only [Act.put, List.setIfInBounds_toArray, List.set_cons_zero, List.set_cons_succ, List.getElem_toArray, List.getElem_cons_zero, List.getElem_cons_succ]
                          refine wpAnyH_take (i := 3) (v := .pointer (some ⟨g, o + i * 10, none⟩)) rfl (by kernel_rfl) (by kernel_rfl) (by kernel_rfl) (fun _ _ _ h => h) (Or.inl ⟨by rfl, ?yq4⟩) (by assumption) ?rq4
                          case yq4 => (intro wq hSw; (try simp only [List.getElem_toArray, List.getElem_cons_zero, List.getElem_cons_succ]); go_simp; (try with_reducible rfl); all_goals (try omega))
                          case rq4 =>
                          try simp only [Act.put, List.setIfInBounds_toArray, List.set_cons_zero, List.set_cons_succ, List.getElem_toArray, List.getElem_cons_zero, List.getElem_cons_succ]
                          refine wpAnyH_take (i := 4) (v := .pointer (some ⟨g, o + i * 10, none⟩)) rfl (by kernel_rfl) (by kernel_rfl) (by kernel_rfl) (fun _ _ _ h => h) (Or.inl ⟨by rfl, ?yq5⟩) (by assumption) ?rq5
                          case yq5 => (intro wq hSw; (try simp only [List.getElem_toArray, List.getElem_cons_zero, List.getElem_cons_succ]); go_simp; (try with_reducible rfl); all_goals (try omega))
                          case rq5 =>
                          try simp only [Act.put, List.setIfInBounds_toArray, List.set_cons_zero, List.set_cons_succ, List.getElem_toArray, List.getElem_cons_zero, List.getElem_cons_succ]
                          refine wpAnyH_take (i := 5) (v := .int .i64 x.id) rfl (by kernel_rfl) (by kernel_rfl) (by kernel_rfl) (fun _ _ _ h => h) (Or.inl ⟨by rfl, ?yq6⟩) (by assumption) ?rq6
                          case yq6 => (intro wq hSw; have z := range0 hSw.1; (try simp only [List.getElem_toArray, List.getElem_cons_zero, List.getElem_cons_succ]); go_simp)
                          case rq6 =>
                          try simp only [Act.put, List.setIfInBounds_toArray, List.set_cons_zero, List.set_cons_succ, List.getElem_toArray, List.getElem_cons_zero, List.getElem_cons_succ]
                          refine wpAnyH_take (i := 6) (v := .agg (El.at x.id).vals.toArray) rfl (by kernel_rfl) (by kernel_rfl) (by kernel_rfl) (fun _ _ _ h => h) (Or.inl ⟨by rfl, ?yq7⟩) (by assumption) ?rq7
                          case yq7 => (intro wq hSw; exact exec_build_at _ _ _ x.id rfl rfl _)
                          case rq7 =>
                          try simp only [Act.put, List.setIfInBounds_toArray, List.set_cons_zero, List.set_cons_succ, List.getElem_toArray, List.getElem_cons_zero, List.getElem_cons_succ]
                          refine wpAnyH_take (i := 7) (v := .int .i64 (f : Int)) rfl (by kernel_rfl) (by kernel_rfl) (by kernel_rfl) (fun _ _ _ h => h) (Or.inl ⟨by rfl, ?yq8⟩) (by assumption) ?rq8
                          case yq8 => (intro wq hSw; (try simp only [List.getElem_toArray, List.getElem_cons_zero, List.getElem_cons_succ]); go_simp; (try with_reducible rfl); all_goals (try omega))
                          case rq8 =>
                          try simp only [Act.put, List.setIfInBounds_toArray, List.set_cons_zero, List.set_cons_succ, List.getElem_toArray, List.getElem_cons_zero, List.getElem_cons_succ]
                          refine wpAnyH_take (i := 8) (v := .agg (vl (getN x (f : Int)) (getS x (f : Int))).toArray) rfl (by kernel_rfl) (by kernel_rfl) (by kernel_rfl) (fun _ _ _ h => h) (Or.inl ⟨by rfl, ?yq9⟩) (by assumption) ?rq9
                          case yq9 => (intro wq hSw; exact exec_load_mid _ _ 51 (.tmp 15) rfl V1 0 rfl (vl (getN x (f : Int)) (getS x (f : Int))) _ _ hSw.2.1 Try.underlying51 rfl vl_info)
                          case rq9 =>
                          try simp only [Act.put, List.setIfInBounds_toArray, List.set_cons_zero, List.set_cons_succ, List.getElem_toArray, List.getElem_cons_zero, List.getElem_cons_succ]
                          refine wpAnyH_take (i := 9) (v := .agg (vl (getN y (f : Int)) (getS y (f : Int))).toArray) rfl (by kernel_rfl) (by kernel_rfl) (by kernel_rfl) (fun _ _ _ h => h) (Or.inl ⟨by rfl, ?yq10⟩) (by assumption) ?rq10
                          case yq10 => (intro wq hSw; exact exec_load_mid _ _ 51 (.tmp 16) rfl V2 0 rfl (vl (getN y (f : Int)) (getS y (f : Int))) _ _ hSw.2.2 Try.underlying51 rfl vl_info)
                          case rq10 =>
                          try simp only [Act.put, List.setIfInBounds_toArray, List.set_cons_zero, List.set_cons_succ, List.getElem_toArray, List.getElem_cons_zero, List.getElem_cons_succ]
                          refine wpAnyH_take (i := 10) (v := .agg (setD x y (f : Int)).vals.toArray) rfl (by kernel_rfl) (by kernel_rfl) (by kernel_rfl) (fun _ _ _ h => h) (Or.inl ⟨by rfl, ?yq11⟩) (by assumption) ?rq11
                          case yq11 => (intro wq hSw; exact exec_edS _ _ _ _ _ _ _ 3 (f : Int) _ _ _ _ (El.at x.id) rfl rfl rfl rfl rfl rfl _)
                          case rq11 =>
                          try simp only [Act.put, List.setIfInBounds_toArray, List.set_cons_zero, List.set_cons_succ, List.getElem_toArray, List.getElem_cons_zero, List.getElem_cons_succ]
                          refine wpAnyH_ready (rs := [11]) (by kernel_rfl) (by simp) ?_
                          refine AllReadyH.cons rfl (fun K hK => ?_) AllReadyH.nil
                          refine oper_exec _ _ (exec_build_one_ed _ _ (.tmp 104) 28 Try.underlying28 rfl (setD x y (f : Int)) rfl _) ?_
                          refine hK.out _ _ (have tb := (box_alloc wx 53 (setD x y (f : Int)).vals).turn; ⟨rangeAt_turn HSx.out tb id, rangeAt_turn (range_of HV1x.out) tb id, rangeAt_turn (range_of HV2x.out) tb id⟩) (fun _ => ?_)
                          clear hK K
                          try simp only [Act.put, List.setIfInBounds_toArray, List.set_cons_zero, List.set_cons_succ, List.getElem_toArray, List.getElem_cons_zero, List.getElem_cons_succ]
                          refine wpAnyH_ready (rs := [12]) (by kernel_rfl) (by simp) ?_
                          refine AllReadyH.cons rfl (fun K hK => ?_) AllReadyH.nil
                          refine oper_exec _ _ (exec_append _ _ (.tmp 94) (.tmp 105) 28 rfl _ _ _ _ _ rfl rfl HRY.out) ?_
                          refine hK.out _ _ ⟨rangeAt_turn HSx.out TYO.out NG.out, rangeAt_turn (range_of HV1x.out) TYO.out N1.out, rangeAt_turn (range_of HV2x.out) TYO.out N2.out⟩ (fun _ => ?_)
                          clear hK K
                          try simp only [Act.put, List.setIfInBounds_toArray, List.set_cons_zero, List.set_cons_succ, List.getElem_toArray, List.getElem_cons_zero, List.getElem_cons_succ]
                          refine wpAnyH_take (i := 13) (v := .slice ay (cl + 1) cy) rfl (by kernel_rfl) (by kernel_rfl) (by kernel_rfl) (fun _ _ _ h => h) (Or.inl ⟨by rfl, ?yq12⟩) (by assumption) ?rq12
                          case yq12 => (intro wq hSw; (try simp only [List.getElem_toArray, List.getElem_cons_zero, List.getElem_cons_succ]); go_simp; (try with_reducible rfl); all_goals (try omega))
                          case rq12 =>
                          try simp only [Act.put, List.setIfInBounds_toArray, List.set_cons_zero, List.set_cons_succ, List.getElem_toArray, List.getElem_cons_zero, List.getElem_cons_succ]
                          refine wpAnyH_done (by kernel_rfl) ?_ _
                          clear hHeld
                          go_wp2_with fail
                          go_roundw
                          case rel => exact ⟨f + 1, by omega, by go_num, by rw [HSU.out, if_pos trivial, ← List.append_assoc]; exact HOY.out, FY.out, TY.out⟩
                          case measure => simp [intOf]; omega
                      · have hfe : f = 9 := by omega
                        subst hfe
                        go_wp2_with fail
                        go_roundw
                        case rel => exact ⟨i + 1, by omega, by go_num, by rw [HSN.out]; exact HOW3.out, HFO3.out, HT3.out⟩
                        case measure => simp [intOf]; omega
                · have hie : i = n := by omega
                  subst hie
                  rw [List.take_of_length_le (by rw [HN.out]; omega)] at how2 HCL
                  obtain ⟨C, hC⟩ : ∃ C, A ++ setsE a b = C := ⟨_, rfl⟩
                  rw [hC] at how2 HCL
                  have HO3 := Lib.hid how2
                  have HD3 := Lib.hid (show diffE a b = (C ++ Q.reverse.map dropD, 0) by rw [HD.out, ← List.append_assoc, hC])
                  clear hC how2 hin hlt
                  go_wp2_with fail
                  go_loopw [10, 17] (fun lv jv ws => ∃ r : Nat, r ≤ q ∧ jv = .int .i64 ((q : Int) - 1 - (r : Int)) ∧ OwE w.heap.size ws lv (C ++ (Q.reverse.take r).map dropD) ∧ Four w ws (.slice la i lc) (.slice ua m uc) (.slice pa k pc) (.slice qa q qc) a b P Q ∧ Turn (fun _ => False) w ws) (fun _ jv _ => (intOf jv + 1).toNat)
                  case atStart => exact ⟨0, Nat.zero_le _, by go_num, by have := HO3.out; simpa using this, HFO2.out, HT2.out⟩
                  case round =>
                    obtain ⟨r, hrq, rfl, how4, hf4, htr4⟩ := hrel
                    have HOW4 := Lib.hid how4
                    have HFO4 := Lib.hid hf4
                    have HT4 := Lib.hid htr4
                    clear how4 hf4 htr4
                    by_cases hlt : r < q
                    · obtain ⟨j, hj⟩ : ∃ j : Nat, q - 1 - r = j := ⟨_, rfl⟩
                      have hji : (q : Int) - 1 - (r : Int) = (j : Int) := by omega
                      have hjq : j < q := by omega
                      have gj : (0 : Int) ≤ (j : Int) ∧ (j : Int) < (q : Int) := by omega
                      have dj : decide (0 ≤ (j : Int)) = true := decide_eq_true (by omega)
                      have hrl : Q.reverse.length = q := by rw [List.length_reverse, HQN.out]
                      have hsn := take_snoc Q.reverse r (by rw [hrl]; exact hlt)
                      have hge : Q.reverse.getD r el0 = Q.getD j el0 := by
                        simp only [List.getD_eq_getElem?_getD, List.getElem?_reverse (show r < Q.length by rw [HQN.out]; exact hlt)]
                        rw [HQN.out, hj]
                      obtain ⟨g, o, e1, hcc, hs⟩ := HFO4.out.2.2.2.1.one HQN.out j hjq
                      subst e1
                      rw [hge] at hsn
                      obtain ⟨x, hx⟩ : ∃ x, Q.getD j el0 = x := ⟨_, rfl⟩
                      rw [hx] at hs hsn
                      have HS := Lib.hid hs
                      have HSN := Lib.hid hsn
                      have HJ := Lib.hid (show (q : Int) - 1 - (r : Int) = (j : Int) ∧ r < q from ⟨hji, hlt⟩)
                      rw [hji]
                      clear hx hs hsn hge hrl hcc hj hji hlt hrq
                      go_wp2_with (with_reducible (show wpList _ _ _ (Oper.mk (some 118) (.load 38 (.tmp 117)) _ _ _ _ :: _) _ _); refine still ?_)
                      refine wpList_load_mid rfl 38 (.tmp 117) rfl g (o + j * 10) rfl x.vals _ HS.out Try.underlying38 rfl el_info ?_
                      go_wp2_with (with_reducible (show wpList _ _ _ (Oper.mk (some 119) (.build 53 _) _ _ _ _ :: _) _ _); refine still ?_)
                      refine list_exec rfl _ _ (exec_edB _ _ _ _ 2 x rfl rfl rfl _) ?_
                      obtain ⟨vy, wy, hry, hoy, ty, ay, cy, hvy⟩ := app_one_ed wr w.heap.size 28 28 Try.underlying28 u10 (C ++ (Q.reverse.take r).map dropD) (dropD x) HOW4.out (by have := HT4.out.size; omega) (by rw [List.length_append, List.length_map, List.length_take]; have := HCL.out; have := HJ.out.2; omega)
                      subst hvy
                      obtain ⟨cl, hcl⟩ : ∃ cl, (C ++ (Q.reverse.take r).map dropD).length = cl := ⟨_, rfl⟩
                      rw [hcl] at hry
                      have hoy : OwE w.heap.size wy (.slice ay (cl + 1) cy) ((C ++ (Q.reverse.take r).map dropD) ++ [(dropD x)]) := by unfold OwE; rw [← hcl]; exact hoy
                      clear hcl
                      have HRY := Lib.hid hry
                      have HOY := Lib.hid hoy
                      have FY := Lib.hid (HFO4.out.own HOW4.out ty)
                      have TY := Lib.hid (turn_on_ed HOW4.out (Nat.le_refl _) HT4.out ty)
                      clear hry hoy ty
                      go_wp2_with (with_reducible (show wpList _ _ _ (Oper.mk (some 120) (.buildSlice 28 _ _) _ _ _ _ :: _) _ _); refine still ?_)
                      refine list_exec rfl _ _ (exec_build_one_ed _ _ (.tmp 119) 28 Try.underlying28 rfl (dropD x) rfl _) ?_
                      go_wp2_with (with_reducible (show wpList _ _ _ (Oper.mk (some 121) (_) _ _ _ _ :: _) _ _); refine still ?_)
                      refine list_exec rfl _ _ (exec_append _ _ (.tmp 114) (.tmp 120) 28 rfl _ _ _ _ _ rfl rfl HRY.out) ?_
                      go_wp2_with fail
                      go_roundw
                      case rel => exact ⟨r + 1, by have := HJ.out.2; omega, by have := HJ.out; first | (go_num; done) | omega, by rw [HSN.out, List.map_append, ← List.append_assoc]; exact HOY.out, FY.out, TY.out⟩
                      case measure => have := HJ.out; simp [intOf]; try omega
                    · have hre : r = q := by omega
                      subst hre
                      have dj : decide ((0 : Int) ≤ (r : Int) - 1 - (r : Int)) = false := decide_eq_false (by omega)
                      have HO5 := Lib.hid (show OwE w.heap.size wr u10 (C ++ Q.reverse.map dropD) by have := HOW4.out; rwa [List.take_of_length_le (by rw [List.length_reverse, HQN.out]; omega)] at this)
                      go_wp2_with fail
                      go_ret2
                      refine ⟨_, by first | (rw [HD3.out]; done) | (rw [HD3.out]; rfl), by rw [HD3.out]; exact HO5.out.row, HT4.out⟩

end Go.Proofs.Ytkciaafkhpjnaaa
