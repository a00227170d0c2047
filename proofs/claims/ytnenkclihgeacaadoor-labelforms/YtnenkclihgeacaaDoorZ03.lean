/- Own contracts: whatever stands in the sectors. No statement is proved here. -/
import Derived.Test.YtnenkclihgeacaaDoorZ02
import Derived.Test.YtnenkclihgeacaaDoorZ01
namespace Go.Proofs.YtnenkclihgeacaaDoor
set_option maxRecDepth 100000
open Go.RowKit
set_option linter.unusedVariables false
set_option linter.unusedSimpArgs false

def key12 : List Int := 1 :: 2 :: List.replicate 30 0
theorem build35k (w : World) : (Instr.build 35 #[(0, .int .u8 1), (1, .int .u8 2)]).run Tryd.prog w = .ok (.agg (keyV key12).toArray) w := by kernel_rfl
theorem exec_build35k (ev : Operand → Value) (op : Oper) (x y : Operand) (ho : op.op = .build 35 #[(0, x), (1, y)]) (hx : ev x = .int .u8 1) (hy : ev y = .int .u8 2) (w : World) : (execOp ev op).run Tryd.prog w = .ok (.value (.agg (keyV key12).toArray)) w := by
  unfold execOp
  simp only [ho, List.map_toArray, List.map_cons, List.map_nil, hx, hy, Sem.run_bind, Sem.run_pure, build35k, Result.andThen_ok]
def mainK : Rf := ⟨mainS, key12, false⟩
def b1S : ByteArray := { data := #[98, 46, 49] }
def b1R : Rf := ⟨b1S, List.replicate 32 0, true⟩
theorem build37mk (w : World) : (Instr.build 37 #[(0, .string mainS), (1, .agg (keyV key12).toArray)]).run Tryd.prog w = .ok (.agg mainK.vals.toArray) w := by kernel_rfl
theorem exec_build37mk (ev : Operand → Value) (op : Oper) (x y : Operand) (ho : op.op = .build 37 #[(0, x), (1, y)]) (hx : ev x = .string mainS) (hy : ev y = .agg (keyV key12).toArray) (w : World) : (execOp ev op).run Tryd.prog w = .ok (.value (.agg mainK.vals.toArray)) w := by
  unfold execOp
  simp only [ho, List.map_toArray, List.map_cons, List.map_nil, hx, hy, Sem.run_bind, Sem.run_pure, build37mk, Result.andThen_ok]
theorem mainK_ok : mainK.Ok := ⟨by decide, by unfold BytesOk; decide⟩
theorem b1R_ok : b1R.Ok := ⟨by decide, by unfold BytesOk; decide⟩
theorem b1_right : rightB b1S = true := by decide +kernel
theorem b1_none : (one mainK).findIdx? (nmB b1S) = none := by decide +kernel
theorem b1_free : (one mainK).findIdx? frB = some 1 := by decide +kernel
set_option maxHeartbeats 16000000 in
theorem lforms_walk (W : World) (at_ : Int) (hat : 0 ≤ at_ ∧ at_ < 256) (v : Value) (ps : List Int) (hv : Src W v ps) (hb : BytesOk ps) (hpl : ps.length ≤ 9223372036854775807) (sp : Int) (hsp : 0 ≤ sp ∧ sp < 256) (tn : Int) (htn : 0 ≤ tn ∧ tn < 256) (kd : Int) (hkd : 0 ≤ kd ∧ kd < 256) (tab : Tab W) :
    Calls Tryd.prog 5 #[.int .u8 at_, v, .int .u8 sp, .int .u8 tn, .int .u8 kd] W fun e w' => e = .returned (.bool true) ∧ Turn (fun _ => False) W w' := by
  obtain ⟨va, vc, rfl, vq⟩ := src_any hv
  clear vq
  obtain ⟨qa, rfl⟩ := Int.eq_ofNat_of_zero_le hat.1
  obtain ⟨qk, rfl⟩ := Int.eq_ofNat_of_zero_le hkd.1
  obtain ⟨qs, rfl⟩ := Int.eq_ofNat_of_zero_le hsp.1
  have h2 : 2 ≤ W.heap.size := tab.1
  have HTAB := Lib.hid tab
  have HV := Lib.hid hv
  have HBO := Lib.hid hb
  obtain ⟨N, hN⟩ : ∃ N, ps.length = N := ⟨_, rfl⟩
  have HNP := Lib.hid hN
  rw [hN] at hpl ⊢
  clear tab hv hb hN
  go_enter Tryd.func5, Tryd.ntmps5
  go_wp2_with fail
  refine (lawake_any W HTAB.out).mono ?_
  rintro e w1 ⟨rfl, t1⟩
  have HT1 := Lib.hid t1
  clear t1
  by_cases h64 : N ≤ 64
  · have d64 : decide (64 < (N : Int)) = false := decide_eq_false (by omega)
    go_wp2_with fail
    refine (fresh_any w1 2000 (HTAB.out.turn HT1.out) (by omega)).mono ?_
    rintro e w2 ⟨D, T, J, F, d, L, rfl, hlb, ha, hL, t2⟩
    have HLB := Lib.hid hlb
    have HT2 := Lib.hid (HT1.out.trans t2 (fun _ _ => id))
    clear hlb t2
    go_wp2_with (with_reducible (show wpList _ _ _ (Oper.mk (some 38) (.build 35 _) _ _ _ _ :: _) _ _); refine still ?_)
    refine list_want rfl _ _ (exec_build35k _ _ _ _ rfl rfl rfl _) ?_
    go_wp2_with (with_reducible (show wpList _ _ _ (Oper.mk (some 39) (.build 37 _) _ _ _ _ :: _) _ _); refine still ?_)
    refine list_want rfl _ _ (exec_build37mk _ _ _ _ rfl rfl rfl _) ?_
    go_wp2_with fail
    refine (make_any w2 w1.heap.size F T J D d L blankC 1800 bl mainK HLB.out mainK_ok).mono ?_
    intro e w3 hmk
    rcases hmk with ⟨h1, _⟩ | ⟨_, h1, _⟩ | ⟨_, _, h1, _⟩ | ⟨_, _, i, h1, hi12, hly⟩
    · rw [show mainK.name = mainS from rfl, main_right] at h1; cases h1
    · exact absurd (bl_name mainS main_ne) h1
    · rw [bl_free] at h1; cases h1
    rw [bl_free] at h1
    cases h1
    obtain ⟨rfl, F3, d3, L3, hlb3, ha3, hs3⟩ := hly.ok ha
    rw [bl_set] at hlb3
    have HLB3 := Lib.hid hlb3
    have hs1 := HT1.out.size
    have HT3 := Lib.hid (show Turn (fun _ => False) W w3 from HT2.out.trans hs3.turn (fun k hk e => by have := HLB.out.bM k e; omega))
    clear hlb3 hs3 hly
    generalize putM blankC _ = C3 at HLB3
    go_wp2_with (with_reducible (show wpList _ _ _ (Oper.mk (some 45) (.build 37 _) _ _ _ _ :: _) _ _); refine still ?_)
    refine list_want rfl _ _ (exec_build37b _ _ _ _ rfl b1S true rfl rfl _) ?_
    go_wp2_with fail
    refine (make_any w3 w1.heap.size F3 T J D d3 L3 C3 1600 (one mainK) b1R HLB3.out b1R_ok).mono ?_
    intro e w4 hmk
    rcases hmk with ⟨h1, _⟩ | ⟨_, h1, _⟩ | ⟨_, _, h1, _⟩ | ⟨_, _, i, h1, hi12', hly⟩
    · rw [show b1R.name = b1S from rfl, b1_right] at h1; cases h1
    · exact absurd b1_none h1
    · rw [b1_free] at h1; cases h1
    rw [b1_free] at h1
    cases h1
    obtain ⟨rfl, F4, d4, L4, hlb4, ha4, hs4⟩ := hly.ok ha3
    have HLB4 := Lib.hid hlb4
    have HT4 := Lib.hid (show Turn (fun _ => False) W w4 from HT3.out.trans hs4.turn (fun k hk e => by have := HLB3.out.bM k e; omega))
    have hL4 := hlb4.jc.lim
    clear hlb4 hs4 hly
    generalize putM C3 _ = C4 at HLB4
    generalize (one mainK).set 1 b1R = rs4 at HLB4
    clear HLB HLB3 HT2 HT3
    go_wp2_with fail
    refine (refseal_any (.slice va N vc) ps w4 (by have h9 := HV.out.turn HT4.out (fun _ _ => id); rwa [HNP.out] at h9) HBO.out).mono ?_
    rintro e w5 ⟨v5, rfl, hrd5, t5⟩
    have HRD5 := Lib.hid hrd5
    have HT5 := Lib.hid (HT4.out.trans t5 (fun _ _ => id))
    have HLB5 := Lib.hid (HLB4.out.turn0 t5)
    clear t5 hrd5
    obtain ⟨g5, o5, c5, rfl, hr5⟩ := reads_pos HRD5.out (by rw [sealB_len]; omega)
    rw [sealB_len]
    clear hr5
    have hrk : qk % 3 = 0 ∨ qk % 3 = 1 ∨ qk % 3 = 2 := by omega
    have hrem : ((qk : Int)).tmod 3 = ((qk % 3 : Nat) : Int) := by rw [Int.tmod_eq_emod_of_nonneg (by omega)]; omega
    have hrm2 : (qk : Int) % 3 = ((qk % 3 : Nat) : Int) := by omega
    have hr12 : qa % 12 < 12 := by omega
    have hra : ((qa : Int)).tmod 12 = ((qa % 12 : Nat) : Int) := by rw [Int.tmod_eq_emod_of_nonneg (by omega)]; omega
    have hra2 : (qa : Int) % 12 = ((qa % 12 : Nat) : Int) := by omega
    obtain ⟨a, haa⟩ : ∃ a, qa % 12 = a := ⟨_, rfl⟩
    rw [haa] at hra hra2 hr12
    have hwa : IntKind.u8.wrap (a : Int) = (a : Int) := by rw [IntKind.wrap_u8]; omega
    have hwa2 : IntKind.i64.wrap (a : Int) = (a : Int) := by rw [IntKind.wrap_i64]; omega
    have hwa3 : IntKind.i64.wrap (97 + (a : Int)) = 97 + (a : Int) := by rw [IntKind.wrap_i64]; omega
    clear haa
    rcases hrk with hk0 | hk1 | hk2
    · rw [hk0] at hrem hrm2
      have HTB := HT5
      have HLBb := HLB5
      have HTB1 := Lib.hid (show w1.heap.size ≤ w5.heap.size from Nat.le_trans (HLBb.out.bM T (.inr (.inr rfl))) (Nat.le_of_lt HLBb.out.tb.lt))
      have HSB := Lib.hid (show Src w5 (.slice (some ⟨g5, o5, none⟩) 64 c5) (sealB ps) from by have h9 : Src w5 _ (sealB ps) := .inl HRD5.out; rwa [sealB_len] at h9)
      have HBB := Lib.hid (sealB_ok ps HBO.out)
      have HLN := Lib.hid (sealB_len ps)
      clear HRD5 hk0
      have hwf := write_flush (n := 1500) HLBb.out.jc.calm (HLBb.out.jc.room.less (by omega)) ha4 (97 + a) (sealB ps) (by omega) (by have := HLBb.out.len.1; omega) (by rw [HLN.out]; omega)
      rw [show ((97 + a : Nat) : Int) = 97 + (a : Int) by omega] at hwf
      obtain ⟨hwa1, hwr1, C6, hC6, hcalm6, hroom6, harm6⟩ := hwf
      have hwd := write_dh w5 F4 D d4 (97 + (a : Int)) (.slice (some ⟨g5, o5, none⟩) 64 c5) (sealB ps) HLBb.out.jc.jh.dh HLBb.out.jc.room.fits HSB.out HBB.out
      have HWD := Lib.hid hwd
      have HROOM1 := Lib.hid hwr1
      have HCALM := Lib.hid hcalm6
      have HROOM6 := Lib.hid hroom6
      have HARM6 := Lib.hid harm6
      clear hwd hwr1 hcalm6 hroom6 harm6 hwa1
      generalize (d4.write (97 + (a : Int)) (sealB ps)).2 = e6 at *
      generalize (d4.write (97 + (a : Int)) (sealB ps)).1 = d6 at *
      go_wp2_with fail
      refine HWD.out.mono ?_
      rintro e w6 ⟨rfl, F6, hdh6, hst6⟩
      have HDH6 := Lib.hid hdh6
      have HB6 := Lib.hid (show ∀ k, F6 k → w1.heap.size ≤ k from fun k hk => by
        rcases hst6.grown k hk with h | h
        · exact HLBb.out.bM k (.inl h)
        · have := HTB1.out; omega)
      have HT6 := Lib.hid (show Turn (fun _ => False) W w6 from HTB.out.trans hst6.turn (fun k hk e => by have := HLBb.out.bM k (.inl e); omega))
      have HS6 := Lib.hid (Nat.le_trans HTB1.out hst6.turn.size)
      clear hdh6 hst6
      have hfl := flush_dh w6 F6 D d6 HDH6.out HROOM1.out.fits
      have HFL := Lib.hid hfl
      clear hfl
      generalize d6.flush.2 = e7 at *
      generalize d6.flush.1 = d7 at *
      go_wp2_with fail
      refine HFL.out.mono ?_
      rintro e w7 ⟨rfl, F7, hdh7, hst7⟩
      have HDH7 := Lib.hid hdh7
      have HB7 := Lib.hid (show ∀ k, F7 k → w1.heap.size ≤ k from fun k hk => by
        rcases hst7.grown k hk with h | h
        · exact HB6.out k h
        · have := HS6.out; omega)
      have HT7 := Lib.hid (show Turn (fun _ => False) W w7 from HT6.out.trans hst7.turn (fun k hk e => by have := HB6.out k e; omega))
      have HS7 := Lib.hid (Nat.le_trans HS6.out hst7.turn.size)
      clear hdh7 hst7
      have hl6 := HLBb.out.len
      have HDC := Lib.hid (show DC w7 F7 D d7 L4 C6 (1400 + 100) from ⟨HDH7.out, HCALM.out, HROOM6.out, by omega⟩)
      go_wp2_with fail
      refine (open_h w7 F7 D d7 L4 C6 1400 HDC.out HARM6.out (by omega)).mono ?_
      rintro e w8 ⟨J8, F8, d8, L8, rfl, hj8, ha8, hJ8, hst8, hL8⟩
      have HJ8 := Lib.hid hj8
      have HB8 := Lib.hid (show ∀ k, F8 k → w1.heap.size ≤ k from fun k hk => by
        rcases hst8.grown k hk with h | h
        · exact HB7.out k h
        · have := HS7.out; omega)
      have HT8 := Lib.hid (show Turn (fun _ => False) W w8 from HT7.out.trans hst8.turn (fun k hk e => by have := HB7.out k e; omega))
      have hJb : w1.heap.size ≤ J8 := by have := HS7.out; omega
      clear hj8 hst8
      go_wp2_with fail
      refine (lopen_any w8 w1.heap.size F8 J8 D d8 L8 C6 1400 HJ8.out (by omega) (HTAB.out.turn HT8.out) (by omega) HB8.out hJb).mono ?_
      rintro e w9 ⟨t9, ⟨T9, rs9, hop, rfl, hT9, hlb9⟩ | ⟨hbad, rfl⟩⟩
      · have HT9 := Lib.hid (HT8.out.trans t9 (fun _ _ => id))
        have HLB9 := Lib.hid hlb9
        have HG := Lib.hid (opTo_good C6 12 rs9 (by omega) hop)
        clear t9 hlb9 hop
        go_wp2_with fail
        refine (all_any w9 T9 J8 rs9 HLB9.out.tb).mono ?_
        rintro e w10 ⟨gl, cl, l, rest, ex, rfl, hpm, hsr, hlc, hrb, hgl, t10⟩
        have hgd := all_good HG.out hpm hsr
        have HT10 := Lib.hid (HT9.out.trans t10 (fun _ _ => id))
        have HRB := Lib.hid hrb
        have HGD := Lib.hid hgd
        have hl12 : l.length ≤ 12 := by rw [hpm.length_eq, ← HG.out.len]; exact List.length_filter_le _ _
        obtain ⟨n, hn⟩ : ∃ n, l.length = n := ⟨_, rfl⟩
        have HNL := Lib.hid hn
        rw [hn] at hlc hl12 ⊢
        clear hgd hpm hsr hrb t10 hn
        go_wp2_with fail
        go_loopw [10, 20] (fun rv iv wr => rv = .bool false ∧ ∃ k : Nat, k ≤ n ∧ iv = .int .i64 (k : Int) ∧ RB wr gl (l ++ rest) ex ∧ Turn (fun _ => False) W wr) (fun _ iv _ => n - (intOf iv).toNat)
        case atStart => exact ⟨rfl, 0, by omega, rfl, HRB.out, HT10.out⟩
        case round =>
          clear HRB HT10
          obtain ⟨rfl, k, hk, rfl, hrb, htr⟩ := hrel
          have HRB := Lib.hid hrb
          have HTr := Lib.hid htr
          clear hrb htr
          by_cases hlt : k < n
          · have hkl : k < (l ++ rest).length := by have := HNL.out; simp; omega
            have hd1 : decide ((k : Int) < (n : Int)) = true := decide_eq_true (by omega)
            have gk : (0 : Int) ≤ (k : Int) ∧ (k : Int) < (n : Int) := by omega
            have hwk : IntKind.i64.wrap ((k : Int) + 1) = (k : Int) + 1 := by rw [IntKind.wrap_i64]; omega
            have eK : (l ++ rest).getD k rf0 = l.getD k rf0 := by simp [List.getD, List.getElem?_append_left (show k < l.length by have := HNL.out; omega)]
            have c1 : wr.cell? ⟨gl, k * 34, none⟩ = some (.string (l.getD k rf0).name) := by
              have h9 := HRB.out.row.at_ k hkl 0 _ (Rf.v0 _)
              rw [eK] at h9
              simpa using h9
            have hxm : l.getD k rf0 ∈ l := by
              rw [show l.getD k rf0 = l[k]'(by have := HNL.out; omega) by simp [List.getD, show k < l.length by have := HNL.out; omega]]
              exact List.getElem_mem _
            have HX := Lib.hid (HGD.out.1 _ hxm)
            clear hxm
            by_cases hk0 : 0 < k
            · have hd2 : decide ((0 : Int) < (k : Int)) = true := decide_eq_true (by omega)
              have hwm : IntKind.i64.wrap ((k : Int) - 1) = (k : Int) - 1 := by rw [IntKind.wrap_i64]; omega
              have gm : (0 : Int) ≤ (k : Int) - 1 ∧ (k : Int) - 1 < (n : Int) := by omega
              have gm1 : (0 : Int) ≤ (k : Int) - 1 := by omega
              have gm2 : (k : Int) - 1 < (n : Int) := by omega
              have htm : ((k : Int) - 1).toNat = k - 1 := by omega
              have eM : (l ++ rest).getD (k - 1) rf0 = l.getD (k - 1) rf0 := by simp [List.getD, List.getElem?_append_left (show k - 1 < l.length by have := HNL.out; omega)]
              have c2 : wr.cell? ⟨gl, (k - 1) * 34, none⟩ = some (.string (l.getD (k - 1) rf0).name) := by
                have h9 := HRB.out.row.at_ (k - 1) (by omega) 0 _ (Rf.v0 _)
                rw [eM] at h9
                simpa using h9
              have hlt2 := HGD.out.2 (k - 1) k (by omega) (by have := HNL.out; omega)
              have hbl : Op.bytesLess (l.getD (k - 1) rf0).name.toList (l.getD k rf0).name.toList = true := by
                rw [less_cmp, ByteArray.toList_eq, ByteArray.toList_eq]
                exact decide_eq_true hlt2
              clear hlt2 eM eK
              generalize l.getD k rf0 = x at *
              generalize l.getD (k - 1) rf0 = y at *
              go_wp2_with fail
              refine wp_region_held_drew (S := fun wq => wq.cell? ⟨gl, k * 34, none⟩ = some (.string x.name) ∧ wq.cell? ⟨gl, (k - 1) * 34, none⟩ = some (.string y.name)) (by kernel_rfl) ⟨c1, c2⟩ (fun hHeld => ?_)
              refine wpAnyH_take (i := 0) (v := .slice (some ⟨gl, 0, none⟩) n cl) rfl (by kernel_rfl) (by kernel_rfl) (by kernel_rfl) (fun _ _ _ h => h) (Or.inl ⟨by rfl, ?yq1⟩) (by assumption) ?rq1
              case yq1 => (intro wq hSw; (try simp only [List.getElem_toArray, List.getElem_cons_zero, List.getElem_cons_succ]); go_simp; (try with_reducible rfl); all_goals (try omega))
              case rq1 =>
              try simp only [Act.put, List.setIfInBounds_toArray, List.set_cons_zero, List.set_cons_succ, List.getElem_toArray, List.getElem_cons_zero, List.getElem_cons_succ]
              refine wpAnyH_take (i := 1) (v := .int .i64 (k : Int)) rfl (by kernel_rfl) (by kernel_rfl) (by kernel_rfl) (fun _ _ _ h => h) (Or.inl ⟨by rfl, ?yq2⟩) (by assumption) ?rq2
              case yq2 => (intro wq hSw; (try simp only [List.getElem_toArray, List.getElem_cons_zero, List.getElem_cons_succ]); go_simp; (try with_reducible rfl); all_goals (try omega))
              case rq2 =>
              try simp only [Act.put, List.setIfInBounds_toArray, List.set_cons_zero, List.set_cons_succ, List.getElem_toArray, List.getElem_cons_zero, List.getElem_cons_succ]
              refine wpAnyH_take (i := 2) (v := .pointer (some ⟨gl, k * 34, none⟩)) rfl (by kernel_rfl) (by kernel_rfl) (by kernel_rfl) (fun _ _ _ h => h) (Or.inl ⟨by rfl, ?yq3⟩) (by assumption) ?rq3
              case yq3 => (intro wq hSw; (try simp only [List.getElem_toArray, List.getElem_cons_zero, List.getElem_cons_succ]); go_simp; (try with_reducible rfl); all_goals (try omega))
              case rq3 =>
              try simp only [Act.put, List.setIfInBounds_toArray, List.set_cons_zero, List.set_cons_succ, List.getElem_toArray, List.getElem_cons_zero, List.getElem_cons_succ]
              refine wpAnyH_take (i := 3) (v := .pointer (some ⟨gl, k * 34, none⟩)) rfl (by kernel_rfl) (by kernel_rfl) (by kernel_rfl) (fun _ _ _ h => h) (Or.inl ⟨by rfl, ?yq4⟩) (by assumption) ?rq4
              case yq4 => (intro wq hSw; (try simp only [List.getElem_toArray, List.getElem_cons_zero, List.getElem_cons_succ]); go_simp; (try with_reducible rfl); all_goals (try omega))
              case rq4 =>
              try simp only [Act.put, List.setIfInBounds_toArray, List.set_cons_zero, List.set_cons_succ, List.getElem_toArray, List.getElem_cons_zero, List.getElem_cons_succ]
              refine wpAnyH_take (i := 4) (v := .string x.name) rfl (by kernel_rfl) (by kernel_rfl) (by kernel_rfl) (fun _ _ _ h => h) (Or.inl ⟨by rfl, ?yq5⟩) (by assumption) ?rq5
              case yq5 => (intro wq hSw; obtain ⟨z1, z2⟩ := hSw; (try simp only [List.getElem_toArray, List.getElem_cons_zero, List.getElem_cons_succ]); go_simp; (try with_reducible rfl); all_goals (try omega))
              case rq5 =>
              try simp only [Act.put, List.setIfInBounds_toArray, List.set_cons_zero, List.set_cons_succ, List.getElem_toArray, List.getElem_cons_zero, List.getElem_cons_succ]
              refine wpAnyH_ready (rs := [5]) (by kernel_rfl) (by simp) ?_
              refine AllReadyH.cons rfl (fun K hK => ?_) AllReadyH.nil
              go_simp
              refine (lright_any x.name wr.drew (by have := (right_size HX.out).2; omega)).mono ?_
              rintro e wz ⟨rfl, rfl⟩
              rw [HX.out]
              refine hK.out _ _ ⟨c1, c2⟩ (fun _ => ?_)
              clear hK K
              try simp only [Act.put, List.setIfInBounds_toArray, List.set_cons_zero, List.set_cons_succ, List.getElem_toArray, List.getElem_cons_zero, List.getElem_cons_succ]
              refine wpAnyH_take (i := 6) (v := .bool false) rfl (by kernel_rfl) (by kernel_rfl) (by kernel_rfl) (fun _ _ _ h => h) (Or.inl ⟨by rfl, ?yq6⟩) (by assumption) ?rq6
              case yq6 => (intro wq hSw; (try simp only [List.getElem_toArray, List.getElem_cons_zero, List.getElem_cons_succ]); go_simp; (try with_reducible rfl); all_goals (try omega))
              case rq6 =>
              try simp only [Act.put, List.setIfInBounds_toArray, List.set_cons_zero, List.set_cons_succ, List.getElem_toArray, List.getElem_cons_zero, List.getElem_cons_succ]
              refine wpAnyH_take (i := 7) (v := .bool false) rfl (by kernel_rfl) (by kernel_rfl) (by kernel_rfl) (fun _ _ _ h => h) (Or.inl ⟨by rfl, ?yq7⟩) (by assumption) ?rq7
              case yq7 => (intro wq hSw; (try simp only [List.getElem_toArray, List.getElem_cons_zero, List.getElem_cons_succ]); go_simp; (try with_reducible rfl); all_goals (try omega))
              case rq7 =>
              try simp only [Act.put, List.setIfInBounds_toArray, List.set_cons_zero, List.set_cons_succ, List.getElem_toArray, List.getElem_cons_zero, List.getElem_cons_succ]
              refine wpAnyH_take (i := 8) (v := .int .i64 (k : Int)) rfl (by kernel_rfl) (by kernel_rfl) (by kernel_rfl) (fun _ _ _ h => h) (Or.inl ⟨by rfl, ?yq8⟩) (by assumption) ?rq8
              case yq8 => (intro wq hSw; (try simp only [List.getElem_toArray, List.getElem_cons_zero, List.getElem_cons_succ]); go_simp; (try with_reducible rfl); all_goals (try omega))
              case rq8 =>
              try simp only [Act.put, List.setIfInBounds_toArray, List.set_cons_zero, List.set_cons_succ, List.getElem_toArray, List.getElem_cons_zero, List.getElem_cons_succ]
              refine wpAnyH_take (i := 9) (v := .bool true) rfl (by kernel_rfl) (by kernel_rfl) (by kernel_rfl) (fun _ _ _ h => h) (Or.inl ⟨by rfl, ?yq9⟩) (by assumption) ?rq9
              case yq9 => (intro wq hSw; (try simp only [List.getElem_toArray, List.getElem_cons_zero, List.getElem_cons_succ]); go_simp; (try with_reducible rfl); all_goals (try omega))
              case rq9 =>
              try simp only [Act.put, List.setIfInBounds_toArray, List.set_cons_zero, List.set_cons_succ, List.getElem_toArray, List.getElem_cons_zero, List.getElem_cons_succ]
              refine wpAnyH_take (i := 10) (v := .bool true) rfl (by kernel_rfl) (by kernel_rfl) (by kernel_rfl) (fun _ _ _ h => h) (Or.inl ⟨by rfl, ?yq10⟩) (by assumption) ?rq10
              case yq10 => (intro wq hSw; (try simp only [List.getElem_toArray, List.getElem_cons_zero, List.getElem_cons_succ]); go_simp; (try with_reducible rfl); all_goals (try omega))
              case rq10 =>
              try simp only [Act.put, List.setIfInBounds_toArray, List.set_cons_zero, List.set_cons_succ, List.getElem_toArray, List.getElem_cons_zero, List.getElem_cons_succ]
              refine wpAnyH_take (i := 11) (v := .slice (some ⟨gl, 0, none⟩) n cl) rfl (by kernel_rfl) (by kernel_rfl) (by kernel_rfl) (fun _ _ _ h => h) (Or.inl ⟨by rfl, ?yq11⟩) (by assumption) ?rq11
              case yq11 => (intro wq hSw; (try simp only [List.getElem_toArray, List.getElem_cons_zero, List.getElem_cons_succ]); go_simp; (try with_reducible rfl); all_goals (try omega))
              case rq11 =>
              try simp only [Act.put, List.setIfInBounds_toArray, List.set_cons_zero, List.set_cons_succ, List.getElem_toArray, List.getElem_cons_zero, List.getElem_cons_succ]
              refine wpAnyH_take (i := 12) (v := .int .i64 (k : Int)) rfl (by kernel_rfl) (by kernel_rfl) (by kernel_rfl) (fun _ _ _ h => h) (Or.inl ⟨by rfl, ?yq12⟩) (by assumption) ?rq12
              case yq12 => (intro wq hSw; (try simp only [List.getElem_toArray, List.getElem_cons_zero, List.getElem_cons_succ]); go_simp; (try with_reducible rfl); all_goals (try omega))
              case rq12 =>
              try simp only [Act.put, List.setIfInBounds_toArray, List.set_cons_zero, List.set_cons_succ, List.getElem_toArray, List.getElem_cons_zero, List.getElem_cons_succ]
              refine wpAnyH_take (i := 13) (v := .int .i64 ((k : Int) - 1)) rfl (by kernel_rfl) (by kernel_rfl) (by kernel_rfl) (fun _ _ _ h => h) (Or.inl ⟨by rfl, ?yq13⟩) (by assumption) ?rq13
              case yq13 => (intro wq hSw; (try simp only [List.getElem_toArray, List.getElem_cons_zero, List.getElem_cons_succ]); go_simp; (try with_reducible rfl); all_goals (try omega))
              case rq13 =>
              try simp only [Act.put, List.setIfInBounds_toArray, List.set_cons_zero, List.set_cons_succ, List.getElem_toArray, List.getElem_cons_zero, List.getElem_cons_succ]
              refine wpAnyH_take (i := 14) (v := .pointer (some ⟨gl, (k - 1) * 34, none⟩)) rfl (by kernel_rfl) (by kernel_rfl) (by kernel_rfl) (fun _ _ _ h => h) (Or.inl ⟨by rfl, ?yq14⟩) (by assumption) ?rq14
              case yq14 => (intro wq hSw; (try simp only [List.getElem_toArray, List.getElem_cons_zero, List.getElem_cons_succ]); go_simp; (try with_reducible rfl); all_goals (try omega))
              case rq14 =>
              try simp only [Act.put, List.setIfInBounds_toArray, List.set_cons_zero, List.set_cons_succ, List.getElem_toArray, List.getElem_cons_zero, List.getElem_cons_succ]
              refine wpAnyH_take (i := 15) (v := .pointer (some ⟨gl, (k - 1) * 34, none⟩)) rfl (by kernel_rfl) (by kernel_rfl) (by kernel_rfl) (fun _ _ _ h => h) (Or.inl ⟨by rfl, ?yq15⟩) (by assumption) ?rq15
              case yq15 => (intro wq hSw; (try simp only [List.getElem_toArray, List.getElem_cons_zero, List.getElem_cons_succ]); go_simp; (try with_reducible rfl); all_goals (try omega))
              case rq15 =>
              try simp only [Act.put, List.setIfInBounds_toArray, List.set_cons_zero, List.set_cons_succ, List.getElem_toArray, List.getElem_cons_zero, List.getElem_cons_succ]
              refine wpAnyH_take (i := 16) (v := .string y.name) rfl (by kernel_rfl) (by kernel_rfl) (by kernel_rfl) (fun _ _ _ h => h) (Or.inl ⟨by rfl, ?yq16⟩) (by assumption) ?rq16
              case yq16 => (intro wq hSw; obtain ⟨z1, z2⟩ := hSw; (try simp only [List.getElem_toArray, List.getElem_cons_zero, List.getElem_cons_succ]); go_simp; (try with_reducible rfl); all_goals (try omega))
              case rq16 =>
              try simp only [Act.put, List.setIfInBounds_toArray, List.set_cons_zero, List.set_cons_succ, List.getElem_toArray, List.getElem_cons_zero, List.getElem_cons_succ]
              refine wpAnyH_take (i := 17) (v := .slice (some ⟨gl, 0, none⟩) n cl) rfl (by kernel_rfl) (by kernel_rfl) (by kernel_rfl) (fun _ _ _ h => h) (Or.inl ⟨by rfl, ?yq17⟩) (by assumption) ?rq17
              case yq17 => (intro wq hSw; (try simp only [List.getElem_toArray, List.getElem_cons_zero, List.getElem_cons_succ]); go_simp; (try with_reducible rfl); all_goals (try omega))
              case rq17 =>
              try simp only [Act.put, List.setIfInBounds_toArray, List.set_cons_zero, List.set_cons_succ, List.getElem_toArray, List.getElem_cons_zero, List.getElem_cons_succ]
              refine wpAnyH_take (i := 18) (v := .int .i64 (k : Int)) rfl (by kernel_rfl) (by kernel_rfl) (by kernel_rfl) (fun _ _ _ h => h) (Or.inl ⟨by rfl, ?yq18⟩) (by assumption) ?rq18
              case yq18 => (intro wq hSw; (try simp only [List.getElem_toArray, List.getElem_cons_zero, List.getElem_cons_succ]); go_simp; (try with_reducible rfl); all_goals (try omega))
              case rq18 =>
              try simp only [Act.put, List.setIfInBounds_toArray, List.set_cons_zero, List.set_cons_succ, List.getElem_toArray, List.getElem_cons_zero, List.getElem_cons_succ]
              refine wpAnyH_take (i := 19) (v := .pointer (some ⟨gl, k * 34, none⟩)) rfl (by kernel_rfl) (by kernel_rfl) (by kernel_rfl) (fun _ _ _ h => h) (Or.inl ⟨by rfl, ?yq19⟩) (by assumption) ?rq19
              case yq19 => (intro wq hSw; (try simp only [List.getElem_toArray, List.getElem_cons_zero, List.getElem_cons_succ]); go_simp; (try with_reducible rfl); all_goals (try omega))
              case rq19 =>
              try simp only [Act.put, List.setIfInBounds_toArray, List.set_cons_zero, List.set_cons_succ, List.getElem_toArray, List.getElem_cons_zero, List.getElem_cons_succ]
              refine wpAnyH_take (i := 20) (v := .pointer (some ⟨gl, k * 34, none⟩)) rfl (by kernel_rfl) (by kernel_rfl) (by kernel_rfl) (fun _ _ _ h => h) (Or.inl ⟨by rfl, ?yq20⟩) (by assumption) ?rq20
              case yq20 => (intro wq hSw; (try simp only [List.getElem_toArray, List.getElem_cons_zero, List.getElem_cons_succ]); go_simp; (try with_reducible rfl); all_goals (try omega))
              case rq20 =>
              try simp only [Act.put, List.setIfInBounds_toArray, List.set_cons_zero, List.set_cons_succ, List.getElem_toArray, List.getElem_cons_zero, List.getElem_cons_succ]
              refine wpAnyH_take (i := 21) (v := .string x.name) rfl (by kernel_rfl) (by kernel_rfl) (by kernel_rfl) (fun _ _ _ h => h) (Or.inl ⟨by rfl, ?yq21⟩) (by assumption) ?rq21
              case yq21 => (intro wq hSw; obtain ⟨z1, z2⟩ := hSw; (try simp only [List.getElem_toArray, List.getElem_cons_zero, List.getElem_cons_succ]); go_simp; (try with_reducible rfl); all_goals (try omega))
              case rq21 =>
              try simp only [Act.put, List.setIfInBounds_toArray, List.set_cons_zero, List.set_cons_succ, List.getElem_toArray, List.getElem_cons_zero, List.getElem_cons_succ]
              refine wpAnyH_take (i := 22) (v := .bool false) rfl (by kernel_rfl) (by kernel_rfl) (by kernel_rfl) (fun _ _ _ h => h) (Or.inl ⟨by rfl, ?yq22⟩) (by assumption) ?rq22
              case yq22 => (intro wq hSw; (try simp only [List.getElem_toArray, List.getElem_cons_zero, List.getElem_cons_succ]); go_simp; (try with_reducible rfl); all_goals (try omega))
              case rq22 =>
              try simp only [Act.put, List.setIfInBounds_toArray, List.set_cons_zero, List.set_cons_succ, List.getElem_toArray, List.getElem_cons_zero, List.getElem_cons_succ]
              refine wpAnyH_take (i := 23) (v := .bool false) rfl (by kernel_rfl) (by kernel_rfl) (by kernel_rfl) (fun _ _ _ h => h) (Or.inl ⟨by rfl, ?yq23⟩) (by assumption) ?rq23
              case yq23 => (intro wq hSw; (try simp only [List.getElem_toArray, List.getElem_cons_zero, List.getElem_cons_succ]); go_simp; (try with_reducible rfl); all_goals (try omega))
              case rq23 =>
              try simp only [Act.put, List.setIfInBounds_toArray, List.set_cons_zero, List.set_cons_succ, List.getElem_toArray, List.getElem_cons_zero, List.getElem_cons_succ]
              refine wpAnyH_take (i := 24) (v := .bool false) rfl (by kernel_rfl) (by kernel_rfl) (by kernel_rfl) (fun _ _ _ h => h) (Or.inl ⟨by rfl, ?yq24⟩) (by assumption) ?rq24
              case yq24 => (intro wq hSw; (try simp only [List.getElem_toArray, List.getElem_cons_zero, List.getElem_cons_succ]); go_simp; (try with_reducible rfl); all_goals (try omega))
              case rq24 =>
              try simp only [Act.put, List.setIfInBounds_toArray, List.set_cons_zero, List.set_cons_succ, List.getElem_toArray, List.getElem_cons_zero, List.getElem_cons_succ]
              refine wpAnyH_done (by kernel_rfl) ?_ _
              clear hHeld
              go_wp2_with fail
              go_roundw
              case rel => exact ⟨rfl, k + 1, by omega, by go_num, HRB.out.turn (Turn.refl (fun _ => False) wr).drew id, HTr.out.drew⟩
              case measure => simp [intOf]; omega
            · obtain rfl : k = 0 := by omega
              generalize l.getD 0 rf0 = x at *
              go_wp2_with fail
              refine wp_region_held_drew (S := fun wq => wq.cell? ⟨gl, 0 * 34, none⟩ = some (.string x.name) ∧ True) (by kernel_rfl) ⟨c1, trivial⟩ (fun hHeld => ?_)
              refine wpAnyH_take (i := 0) (v := .slice (some ⟨gl, 0, none⟩) n cl) rfl (by kernel_rfl) (by kernel_rfl) (by kernel_rfl) (fun _ _ _ h => h) (Or.inl ⟨by rfl, ?yq25⟩) (by assumption) ?rq25
              case yq25 => (intro wq hSw; (try simp only [List.getElem_toArray, List.getElem_cons_zero, List.getElem_cons_succ]); go_simp; (try with_reducible rfl); all_goals (try omega))
              case rq25 =>
              try simp only [Act.put, List.setIfInBounds_toArray, List.set_cons_zero, List.set_cons_succ, List.getElem_toArray, List.getElem_cons_zero, List.getElem_cons_succ]
              refine wpAnyH_take (i := 1) (v := .int .i64 0) rfl (by kernel_rfl) (by kernel_rfl) (by kernel_rfl) (fun _ _ _ h => h) (Or.inl ⟨by rfl, ?yq26⟩) (by assumption) ?rq26
              case yq26 => (intro wq hSw; (try simp only [List.getElem_toArray, List.getElem_cons_zero, List.getElem_cons_succ]); go_simp; (try with_reducible rfl); all_goals (try omega))
              case rq26 =>
              try simp only [Act.put, List.setIfInBounds_toArray, List.set_cons_zero, List.set_cons_succ, List.getElem_toArray, List.getElem_cons_zero, List.getElem_cons_succ]
              refine wpAnyH_take (i := 2) (v := .pointer (some ⟨gl, 0, none⟩)) rfl (by kernel_rfl) (by kernel_rfl) (by kernel_rfl) (fun _ _ _ h => h) (Or.inl ⟨by rfl, ?yq27⟩) (by assumption) ?rq27
              case yq27 => (intro wq hSw; (try simp only [List.getElem_toArray, List.getElem_cons_zero, List.getElem_cons_succ]); go_simp; (try with_reducible rfl); all_goals (try omega))
              case rq27 =>
              try simp only [Act.put, List.setIfInBounds_toArray, List.set_cons_zero, List.set_cons_succ, List.getElem_toArray, List.getElem_cons_zero, List.getElem_cons_succ]
              refine wpAnyH_take (i := 3) (v := .pointer (some ⟨gl, 0, none⟩)) rfl (by kernel_rfl) (by kernel_rfl) (by kernel_rfl) (fun _ _ _ h => h) (Or.inl ⟨by rfl, ?yq28⟩) (by assumption) ?rq28
              case yq28 => (intro wq hSw; (try simp only [List.getElem_toArray, List.getElem_cons_zero, List.getElem_cons_succ]); go_simp; (try with_reducible rfl); all_goals (try omega))
              case rq28 =>
              try simp only [Act.put, List.setIfInBounds_toArray, List.set_cons_zero, List.set_cons_succ, List.getElem_toArray, List.getElem_cons_zero, List.getElem_cons_succ]
              refine wpAnyH_take (i := 4) (v := .string x.name) rfl (by kernel_rfl) (by kernel_rfl) (by kernel_rfl) (fun _ _ _ h => h) (Or.inl ⟨by rfl, ?yq29⟩) (by assumption) ?rq29
              case yq29 => (intro wq hSw; have z1 : wq.cell? ⟨gl, 0, none⟩ = some (.string x.name) := (by simpa using hSw.1); (try simp only [List.getElem_toArray, List.getElem_cons_zero, List.getElem_cons_succ]); go_simp; (try with_reducible rfl); all_goals (try omega))
              case rq29 =>
              try simp only [Act.put, List.setIfInBounds_toArray, List.set_cons_zero, List.set_cons_succ, List.getElem_toArray, List.getElem_cons_zero, List.getElem_cons_succ]
              refine wpAnyH_ready (rs := [5]) (by kernel_rfl) (by simp) ?_
              refine AllReadyH.cons rfl (fun K hK => ?_) AllReadyH.nil
              go_simp
              refine (lright_any x.name wr.drew (by have := (right_size HX.out).2; omega)).mono ?_
              rintro e wz ⟨rfl, rfl⟩
              rw [HX.out]
              refine hK.out _ _ ⟨c1, trivial⟩ (fun _ => ?_)
              clear hK K
              try simp only [Act.put, List.setIfInBounds_toArray, List.set_cons_zero, List.set_cons_succ, List.getElem_toArray, List.getElem_cons_zero, List.getElem_cons_succ]
              refine wpAnyH_take (i := 6) (v := .bool false) rfl (by kernel_rfl) (by kernel_rfl) (by kernel_rfl) (fun _ _ _ h => h) (Or.inl ⟨by rfl, ?yq30⟩) (by assumption) ?rq30
              case yq30 => (intro wq hSw; (try simp only [List.getElem_toArray, List.getElem_cons_zero, List.getElem_cons_succ]); go_simp; (try with_reducible rfl); all_goals (try omega))
              case rq30 =>
              try simp only [Act.put, List.setIfInBounds_toArray, List.set_cons_zero, List.set_cons_succ, List.getElem_toArray, List.getElem_cons_zero, List.getElem_cons_succ]
              refine wpAnyH_take (i := 7) (v := .bool false) rfl (by kernel_rfl) (by kernel_rfl) (by kernel_rfl) (fun _ _ _ h => h) (Or.inl ⟨by rfl, ?yq31⟩) (by assumption) ?rq31
              case yq31 => (intro wq hSw; (try simp only [List.getElem_toArray, List.getElem_cons_zero, List.getElem_cons_succ]); go_simp; (try with_reducible rfl); all_goals (try omega))
              case rq31 =>
              try simp only [Act.put, List.setIfInBounds_toArray, List.set_cons_zero, List.set_cons_succ, List.getElem_toArray, List.getElem_cons_zero, List.getElem_cons_succ]
              refine wpAnyH_take (i := 8) (v := .int .i64 0) rfl (by kernel_rfl) (by kernel_rfl) (by kernel_rfl) (fun _ _ _ h => h) (Or.inl ⟨by rfl, ?yq32⟩) (by assumption) ?rq32
              case yq32 => (intro wq hSw; (try simp only [List.getElem_toArray, List.getElem_cons_zero, List.getElem_cons_succ]); go_simp; (try with_reducible rfl); all_goals (try omega))
              case rq32 =>
              try simp only [Act.put, List.setIfInBounds_toArray, List.set_cons_zero, List.set_cons_succ, List.getElem_toArray, List.getElem_cons_zero, List.getElem_cons_succ]
              refine wpAnyH_take (i := 9) (v := .bool false) rfl (by kernel_rfl) (by kernel_rfl) (by kernel_rfl) (fun _ _ _ h => h) (Or.inl ⟨by rfl, ?yq33⟩) (by assumption) ?rq33
              case yq33 => (intro wq hSw; (try simp only [List.getElem_toArray, List.getElem_cons_zero, List.getElem_cons_succ]); go_simp; (try with_reducible rfl); all_goals (try omega))
              case rq33 =>
              try simp only [Act.put, List.setIfInBounds_toArray, List.set_cons_zero, List.set_cons_succ, List.getElem_toArray, List.getElem_cons_zero, List.getElem_cons_succ]
              refine wpAnyH_take (i := 10) (v := .bool false) rfl (by kernel_rfl) (by kernel_rfl) (by kernel_rfl) (fun _ _ _ h => h) (Or.inl ⟨by rfl, ?yq34⟩) (by assumption) ?rq34
              case yq34 => (intro wq hSw; (try simp only [List.getElem_toArray, List.getElem_cons_zero, List.getElem_cons_succ]); go_simp; (try with_reducible rfl); all_goals (try omega))
              case rq34 =>
              try simp only [Act.put, List.setIfInBounds_toArray, List.set_cons_zero, List.set_cons_succ, List.getElem_toArray, List.getElem_cons_zero, List.getElem_cons_succ]
              refine wpAnyH_take (i := 11) (v := undef) rfl (by kernel_rfl) (by kernel_rfl) (by kernel_rfl) (fun _ _ _ h => h) (Or.inr ⟨by rfl, rfl⟩) (by assumption) ?rq35
              case rq35 =>
              try simp only [Act.put, List.setIfInBounds_toArray, List.set_cons_zero, List.set_cons_succ, List.getElem_toArray, List.getElem_cons_zero, List.getElem_cons_succ]
              refine wpAnyH_take (i := 12) (v := undef) rfl (by kernel_rfl) (by kernel_rfl) (by kernel_rfl) (fun _ _ _ h => h) (Or.inr ⟨by rfl, rfl⟩) (by assumption) ?rq36
              case rq36 =>
              try simp only [Act.put, List.setIfInBounds_toArray, List.set_cons_zero, List.set_cons_succ, List.getElem_toArray, List.getElem_cons_zero, List.getElem_cons_succ]
              refine wpAnyH_take (i := 13) (v := undef) rfl (by kernel_rfl) (by kernel_rfl) (by kernel_rfl) (fun _ _ _ h => h) (Or.inr ⟨by rfl, rfl⟩) (by assumption) ?rq37
              case rq37 =>
              try simp only [Act.put, List.setIfInBounds_toArray, List.set_cons_zero, List.set_cons_succ, List.getElem_toArray, List.getElem_cons_zero, List.getElem_cons_succ]
              refine wpAnyH_take (i := 14) (v := undef) rfl (by kernel_rfl) (by kernel_rfl) (by kernel_rfl) (fun _ _ _ h => h) (Or.inr ⟨by rfl, rfl⟩) (by assumption) ?rq38
              case rq38 =>
              try simp only [Act.put, List.setIfInBounds_toArray, List.set_cons_zero, List.set_cons_succ, List.getElem_toArray, List.getElem_cons_zero, List.getElem_cons_succ]
              refine wpAnyH_take (i := 15) (v := undef) rfl (by kernel_rfl) (by kernel_rfl) (by kernel_rfl) (fun _ _ _ h => h) (Or.inr ⟨by rfl, rfl⟩) (by assumption) ?rq39
              case rq39 =>
              try simp only [Act.put, List.setIfInBounds_toArray, List.set_cons_zero, List.set_cons_succ, List.getElem_toArray, List.getElem_cons_zero, List.getElem_cons_succ]
              refine wpAnyH_take (i := 16) (v := undef) rfl (by kernel_rfl) (by kernel_rfl) (by kernel_rfl) (fun _ _ _ h => h) (Or.inr ⟨by rfl, rfl⟩) (by assumption) ?rq40
              case rq40 =>
              try simp only [Act.put, List.setIfInBounds_toArray, List.set_cons_zero, List.set_cons_succ, List.getElem_toArray, List.getElem_cons_zero, List.getElem_cons_succ]
              refine wpAnyH_take (i := 17) (v := undef) rfl (by kernel_rfl) (by kernel_rfl) (by kernel_rfl) (fun _ _ _ h => h) (Or.inr ⟨by rfl, rfl⟩) (by assumption) ?rq41
              case rq41 =>
              try simp only [Act.put, List.setIfInBounds_toArray, List.set_cons_zero, List.set_cons_succ, List.getElem_toArray, List.getElem_cons_zero, List.getElem_cons_succ]
              refine wpAnyH_take (i := 18) (v := undef) rfl (by kernel_rfl) (by kernel_rfl) (by kernel_rfl) (fun _ _ _ h => h) (Or.inr ⟨by rfl, rfl⟩) (by assumption) ?rq42
              case rq42 =>
              try simp only [Act.put, List.setIfInBounds_toArray, List.set_cons_zero, List.set_cons_succ, List.getElem_toArray, List.getElem_cons_zero, List.getElem_cons_succ]
              refine wpAnyH_take (i := 19) (v := undef) rfl (by kernel_rfl) (by kernel_rfl) (by kernel_rfl) (fun _ _ _ h => h) (Or.inr ⟨by rfl, rfl⟩) (by assumption) ?rq43
              case rq43 =>
              try simp only [Act.put, List.setIfInBounds_toArray, List.set_cons_zero, List.set_cons_succ, List.getElem_toArray, List.getElem_cons_zero, List.getElem_cons_succ]
              refine wpAnyH_take (i := 20) (v := undef) rfl (by kernel_rfl) (by kernel_rfl) (by kernel_rfl) (fun _ _ _ h => h) (Or.inr ⟨by rfl, rfl⟩) (by assumption) ?rq44
              case rq44 =>
              try simp only [Act.put, List.setIfInBounds_toArray, List.set_cons_zero, List.set_cons_succ, List.getElem_toArray, List.getElem_cons_zero, List.getElem_cons_succ]
              refine wpAnyH_take (i := 21) (v := undef) rfl (by kernel_rfl) (by kernel_rfl) (by kernel_rfl) (fun _ _ _ h => h) (Or.inr ⟨by rfl, rfl⟩) (by assumption) ?rq45
              case rq45 =>
              try simp only [Act.put, List.setIfInBounds_toArray, List.set_cons_zero, List.set_cons_succ, List.getElem_toArray, List.getElem_cons_zero, List.getElem_cons_succ]
              refine wpAnyH_take (i := 22) (v := undef) rfl (by kernel_rfl) (by kernel_rfl) (by kernel_rfl) (fun _ _ _ h => h) (Or.inr ⟨by rfl, rfl⟩) (by assumption) ?rq46
              case rq46 =>
              try simp only [Act.put, List.setIfInBounds_toArray, List.set_cons_zero, List.set_cons_succ, List.getElem_toArray, List.getElem_cons_zero, List.getElem_cons_succ]
              refine wpAnyH_take (i := 23) (v := .bool false) rfl (by kernel_rfl) (by kernel_rfl) (by kernel_rfl) (fun _ _ _ h => h) (Or.inl ⟨by rfl, ?yq47⟩) (by assumption) ?rq47
              case yq47 => (intro wq hSw; (try simp only [List.getElem_toArray, List.getElem_cons_zero, List.getElem_cons_succ]); go_simp; (try with_reducible rfl); all_goals (try omega))
              case rq47 =>
              try simp only [Act.put, List.setIfInBounds_toArray, List.set_cons_zero, List.set_cons_succ, List.getElem_toArray, List.getElem_cons_zero, List.getElem_cons_succ]
              refine wpAnyH_take (i := 24) (v := .bool false) rfl (by kernel_rfl) (by kernel_rfl) (by kernel_rfl) (fun _ _ _ h => h) (Or.inl ⟨by rfl, ?yq48⟩) (by assumption) ?rq48
              case yq48 => (intro wq hSw; (try simp only [List.getElem_toArray, List.getElem_cons_zero, List.getElem_cons_succ]); go_simp; (try with_reducible rfl); all_goals (try omega))
              case rq48 =>
              try simp only [Act.put, List.setIfInBounds_toArray, List.set_cons_zero, List.set_cons_succ, List.getElem_toArray, List.getElem_cons_zero, List.getElem_cons_succ]
              refine wpAnyH_done (by kernel_rfl) ?_ _
              clear hHeld
              go_wp2_with fail
              go_roundw
              case rel => exact ⟨rfl, 1, by omega, by go_num, HRB.out.turn (Turn.refl (fun _ => False) wr).drew id, HTr.out.drew⟩
              case measure => simp [intOf]; omega
          · have hd1 : decide ((k : Int) < (n : Int)) = false := decide_eq_false (by omega)
            go_wp2_with fail
            go_ret
            exact ⟨rfl, HTr.out⟩
      · have HT9 := Lib.hid (HT8.out.trans t9 (fun _ _ => id))
        clear t9 hbad
        go_wp2_with fail
        go_ret
        exact ⟨rfl, HT9.out⟩
    · rw [hk1] at hrem hrm2
      have hsv5 : Src w5 (.slice va N vc) ps := by have h9 := HV.out.turn HT5.out (fun _ _ => id); rwa [HNP.out] at h9
      obtain ⟨v6, wz, hr6, ho6, hn6, t6⟩ := app_first w5 _ ps hsv5 (by rw [HNP.out]; exact h64)
      obtain ⟨g7, c7, wb, hr7, hc7, hg7, hgl7, hrg7, t7⟩ := app_zeros w5 wz v6 ps (by rw [HNP.out]; exact h64) ho6 hn6 t6
      rw [HNP.out] at hr7
      have hws : IntKind.i64.wrap (64 - (N : Int)) = 64 - (N : Int) := by rw [IntKind.wrap_i64]; omega
      have HR6 := Lib.hid hr6
      have HR7 := Lib.hid hr7
      have HTB := Lib.hid (HT5.out.trans t7 (fun _ _ => id))
      have HLBb := Lib.hid (HLB5.out.turn0 t7)
      have HTB1 := Lib.hid (show w1.heap.size ≤ wb.heap.size from Nat.le_trans (HLBb.out.bM T (.inr (.inr rfl))) (Nat.le_of_lt HLBb.out.tb.lt))
      have hpl64 := pad64_len ps (by rw [HNP.out]; exact h64)
      have HSB := Lib.hid (show Src wb (.slice (some ⟨g7, 0, none⟩) 64 c7) (pad64 ps) from .inl (.inr ⟨g7, 0, c7, by rw [hpl64], by rw [hpl64]; exact hc7, fun i hi => hrg7 i _ (by
        unfold secV
        rw [List.getElem?_map]
        simp only [List.getD_eq_getElem?_getD]
        rw [List.getElem?_eq_getElem hi]
        simp)⟩))
      have HBB := Lib.hid (pad64_ok ps HBO.out)
      have HLN := Lib.hid hpl64
      clear HRD5 hk1 hsv5 hr6 hr7 ho6 hn6 t6 t7 hrg7 hpl64
      go_wp2_with (with_reducible (show wpList _ _ _ (Oper.mk (some 56) (.call _) _ _ _ _ :: _) _ _); refine still ?_)
      refine list_exec rfl v6 wz (exec_append2 _ _ (.const (.slice none 0 0)) (.tmp 55) 31 31 rfl _ _ _ _ _ rfl rfl HR6.out) ?_
      go_wp2_with (with_reducible (show wpList _ _ _ (Oper.mk (some 60) (.call _) _ _ _ _ :: _) _ _); refine still ?_)
      refine list_exec rfl _ wb (exec_append2 _ _ (.tmp 56) (.tmp 59) 31 3 rfl _ _ _ _ _ rfl rfl HR7.out) ?_
      have hwf := write_flush (n := 1500) HLBb.out.jc.calm (HLBb.out.jc.room.less (by omega)) ha4 (97 + a) (pad64 ps) (by omega) (by have := HLBb.out.len.1; omega) (by rw [HLN.out]; omega)
      rw [show ((97 + a : Nat) : Int) = 97 + (a : Int) by omega] at hwf
      obtain ⟨hwa1, hwr1, C6, hC6, hcalm6, hroom6, harm6⟩ := hwf
      have hwd := write_dh wb F4 D d4 (97 + (a : Int)) (.slice (some ⟨g7, 0, none⟩) 64 c7) (pad64 ps) HLBb.out.jc.jh.dh HLBb.out.jc.room.fits HSB.out HBB.out
      have HWD := Lib.hid hwd
      have HROOM1 := Lib.hid hwr1
      have HCALM := Lib.hid hcalm6
      have HROOM6 := Lib.hid hroom6
      have HARM6 := Lib.hid harm6
      clear hwd hwr1 hcalm6 hroom6 harm6 hwa1
      generalize (d4.write (97 + (a : Int)) (pad64 ps)).2 = e6 at *
      generalize (d4.write (97 + (a : Int)) (pad64 ps)).1 = d6 at *
      go_wp2_with fail
      refine HWD.out.mono ?_
      rintro e w6 ⟨rfl, F6, hdh6, hst6⟩
      have HDH6 := Lib.hid hdh6
      have HB6 := Lib.hid (show ∀ k, F6 k → w1.heap.size ≤ k from fun k hk => by
        rcases hst6.grown k hk with h | h
        · exact HLBb.out.bM k (.inl h)
        · have := HTB1.out; omega)
      have HT6 := Lib.hid (show Turn (fun _ => False) W w6 from HTB.out.trans hst6.turn (fun k hk e => by have := HLBb.out.bM k (.inl e); omega))
      have HS6 := Lib.hid (Nat.le_trans HTB1.out hst6.turn.size)
      clear hdh6 hst6
      have hfl := flush_dh w6 F6 D d6 HDH6.out HROOM1.out.fits
      have HFL := Lib.hid hfl
      clear hfl
      generalize d6.flush.2 = e7 at *
      generalize d6.flush.1 = d7 at *
      go_wp2_with fail
      refine HFL.out.mono ?_
      rintro e w7 ⟨rfl, F7, hdh7, hst7⟩
      have HDH7 := Lib.hid hdh7
      have HB7 := Lib.hid (show ∀ k, F7 k → w1.heap.size ≤ k from fun k hk => by
        rcases hst7.grown k hk with h | h
        · exact HB6.out k h
        · have := HS6.out; omega)
      have HT7 := Lib.hid (show Turn (fun _ => False) W w7 from HT6.out.trans hst7.turn (fun k hk e => by have := HB6.out k e; omega))
      have HS7 := Lib.hid (Nat.le_trans HS6.out hst7.turn.size)
      clear hdh7 hst7
      have hl6 := HLBb.out.len
      have HDC := Lib.hid (show DC w7 F7 D d7 L4 C6 (1400 + 100) from ⟨HDH7.out, HCALM.out, HROOM6.out, by omega⟩)
      go_wp2_with fail
      refine (open_h w7 F7 D d7 L4 C6 1400 HDC.out HARM6.out (by omega)).mono ?_
      rintro e w8 ⟨J8, F8, d8, L8, rfl, hj8, ha8, hJ8, hst8, hL8⟩
      have HJ8 := Lib.hid hj8
      have HB8 := Lib.hid (show ∀ k, F8 k → w1.heap.size ≤ k from fun k hk => by
        rcases hst8.grown k hk with h | h
        · exact HB7.out k h
        · have := HS7.out; omega)
      have HT8 := Lib.hid (show Turn (fun _ => False) W w8 from HT7.out.trans hst8.turn (fun k hk e => by have := HB7.out k e; omega))
      have hJb : w1.heap.size ≤ J8 := by have := HS7.out; omega
      clear hj8 hst8
      go_wp2_with fail
      refine (lopen_any w8 w1.heap.size F8 J8 D d8 L8 C6 1400 HJ8.out (by omega) (HTAB.out.turn HT8.out) (by omega) HB8.out hJb).mono ?_
      rintro e w9 ⟨t9, ⟨T9, rs9, hop, rfl, hT9, hlb9⟩ | ⟨hbad, rfl⟩⟩
      · have HT9 := Lib.hid (HT8.out.trans t9 (fun _ _ => id))
        have HLB9 := Lib.hid hlb9
        have HG := Lib.hid (opTo_good C6 12 rs9 (by omega) hop)
        clear t9 hlb9 hop
        go_wp2_with fail
        refine (all_any w9 T9 J8 rs9 HLB9.out.tb).mono ?_
        rintro e w10 ⟨gl, cl, l, rest, ex, rfl, hpm, hsr, hlc, hrb, hgl, t10⟩
        have hgd := all_good HG.out hpm hsr
        have HT10 := Lib.hid (HT9.out.trans t10 (fun _ _ => id))
        have HRB := Lib.hid hrb
        have HGD := Lib.hid hgd
        have hl12 : l.length ≤ 12 := by rw [hpm.length_eq, ← HG.out.len]; exact List.length_filter_le _ _
        obtain ⟨n, hn⟩ : ∃ n, l.length = n := ⟨_, rfl⟩
        have HNL := Lib.hid hn
        rw [hn] at hlc hl12 ⊢
        clear hgd hpm hsr hrb t10 hn
        go_wp2_with fail
        go_loopw [10, 20] (fun rv iv wr => rv = .bool false ∧ ∃ k : Nat, k ≤ n ∧ iv = .int .i64 (k : Int) ∧ RB wr gl (l ++ rest) ex ∧ Turn (fun _ => False) W wr) (fun _ iv _ => n - (intOf iv).toNat)
        case atStart => exact ⟨rfl, 0, by omega, rfl, HRB.out, HT10.out⟩
        case round =>
          clear HRB HT10
          obtain ⟨rfl, k, hk, rfl, hrb, htr⟩ := hrel
          have HRB := Lib.hid hrb
          have HTr := Lib.hid htr
          clear hrb htr
          by_cases hlt : k < n
          · have hkl : k < (l ++ rest).length := by have := HNL.out; simp; omega
            have hd1 : decide ((k : Int) < (n : Int)) = true := decide_eq_true (by omega)
            have gk : (0 : Int) ≤ (k : Int) ∧ (k : Int) < (n : Int) := by omega
            have hwk : IntKind.i64.wrap ((k : Int) + 1) = (k : Int) + 1 := by rw [IntKind.wrap_i64]; omega
            have eK : (l ++ rest).getD k rf0 = l.getD k rf0 := by simp [List.getD, List.getElem?_append_left (show k < l.length by have := HNL.out; omega)]
            have c1 : wr.cell? ⟨gl, k * 34, none⟩ = some (.string (l.getD k rf0).name) := by
              have h9 := HRB.out.row.at_ k hkl 0 _ (Rf.v0 _)
              rw [eK] at h9
              simpa using h9
            have hxm : l.getD k rf0 ∈ l := by
              rw [show l.getD k rf0 = l[k]'(by have := HNL.out; omega) by simp [List.getD, show k < l.length by have := HNL.out; omega]]
              exact List.getElem_mem _
            have HX := Lib.hid (HGD.out.1 _ hxm)
            clear hxm
            by_cases hk0 : 0 < k
            · have hd2 : decide ((0 : Int) < (k : Int)) = true := decide_eq_true (by omega)
              have hwm : IntKind.i64.wrap ((k : Int) - 1) = (k : Int) - 1 := by rw [IntKind.wrap_i64]; omega
              have gm : (0 : Int) ≤ (k : Int) - 1 ∧ (k : Int) - 1 < (n : Int) := by omega
              have gm1 : (0 : Int) ≤ (k : Int) - 1 := by omega
              have gm2 : (k : Int) - 1 < (n : Int) := by omega
              have htm : ((k : Int) - 1).toNat = k - 1 := by omega
              have eM : (l ++ rest).getD (k - 1) rf0 = l.getD (k - 1) rf0 := by simp [List.getD, List.getElem?_append_left (show k - 1 < l.length by have := HNL.out; omega)]
              have c2 : wr.cell? ⟨gl, (k - 1) * 34, none⟩ = some (.string (l.getD (k - 1) rf0).name) := by
                have h9 := HRB.out.row.at_ (k - 1) (by omega) 0 _ (Rf.v0 _)
                rw [eM] at h9
                simpa using h9
              have hlt2 := HGD.out.2 (k - 1) k (by omega) (by have := HNL.out; omega)
              have hbl : Op.bytesLess (l.getD (k - 1) rf0).name.toList (l.getD k rf0).name.toList = true := by
                rw [less_cmp, ByteArray.toList_eq, ByteArray.toList_eq]
                exact decide_eq_true hlt2
              clear hlt2 eM eK
              generalize l.getD k rf0 = x at *
              generalize l.getD (k - 1) rf0 = y at *
              go_wp2_with fail
              refine wp_region_held_drew (S := fun wq => wq.cell? ⟨gl, k * 34, none⟩ = some (.string x.name) ∧ wq.cell? ⟨gl, (k - 1) * 34, none⟩ = some (.string y.name)) (by kernel_rfl) ⟨c1, c2⟩ (fun hHeld => ?_)
              refine wpAnyH_take (i := 0) (v := .slice (some ⟨gl, 0, none⟩) n cl) rfl (by kernel_rfl) (by kernel_rfl) (by kernel_rfl) (fun _ _ _ h => h) (Or.inl ⟨by rfl, ?yq49⟩) (by assumption) ?rq49
              case yq49 => (intro wq hSw; (try simp only [List.getElem_toArray, List.getElem_cons_zero, List.getElem_cons_succ]); go_simp; (try with_reducible rfl); all_goals (try omega))
              case rq49 =>
              try simp only [Act.put, List.setIfInBounds_toArray, List.set_cons_zero, List.set_cons_succ, List.getElem_toArray, List.getElem_cons_zero, List.getElem_cons_succ]
              refine wpAnyH_take (i := 1) (v := .int .i64 (k : Int)) rfl (by kernel_rfl) (by kernel_rfl) (by kernel_rfl) (fun _ _ _ h => h) (Or.inl ⟨by rfl, ?yq50⟩) (by assumption) ?rq50
              case yq50 => (intro wq hSw; (try simp only [List.getElem_toArray, List.getElem_cons_zero, List.getElem_cons_succ]); go_simp; (try with_reducible rfl); all_goals (try omega))
              case rq50 =>
              try simp only [Act.put, List.setIfInBounds_toArray, List.set_cons_zero, List.set_cons_succ, List.getElem_toArray, List.getElem_cons_zero, List.getElem_cons_succ]
              refine wpAnyH_take (i := 2) (v := .pointer (some ⟨gl, k * 34, none⟩)) rfl (by kernel_rfl) (by kernel_rfl) (by kernel_rfl) (fun _ _ _ h => h) (Or.inl ⟨by rfl, ?yq51⟩) (by assumption) ?rq51
              case yq51 => (intro wq hSw; (try simp only [List.getElem_toArray, List.getElem_cons_zero, List.getElem_cons_succ]); go_simp; (try with_reducible rfl); all_goals (try omega))
              case rq51 =>
              try simp only [Act.put, List.setIfInBounds_toArray, List.set_cons_zero, List.set_cons_succ, List.getElem_toArray, List.getElem_cons_zero, List.getElem_cons_succ]
              refine wpAnyH_take (i := 3) (v := .pointer (some ⟨gl, k * 34, none⟩)) rfl (by kernel_rfl) (by kernel_rfl) (by kernel_rfl) (fun _ _ _ h => h) (Or.inl ⟨by rfl, ?yq52⟩) (by assumption) ?rq52
              case yq52 => (intro wq hSw; (try simp only [List.getElem_toArray, List.getElem_cons_zero, List.getElem_cons_succ]); go_simp; (try with_reducible rfl); all_goals (try omega))
              case rq52 =>
              try simp only [Act.put, List.setIfInBounds_toArray, List.set_cons_zero, List.set_cons_succ, List.getElem_toArray, List.getElem_cons_zero, List.getElem_cons_succ]
              refine wpAnyH_take (i := 4) (v := .string x.name) rfl (by kernel_rfl) (by kernel_rfl) (by kernel_rfl) (fun _ _ _ h => h) (Or.inl ⟨by rfl, ?yq53⟩) (by assumption) ?rq53
              case yq53 => (intro wq hSw; obtain ⟨z1, z2⟩ := hSw; (try simp only [List.getElem_toArray, List.getElem_cons_zero, List.getElem_cons_succ]); go_simp; (try with_reducible rfl); all_goals (try omega))
              case rq53 =>
              try simp only [Act.put, List.setIfInBounds_toArray, List.set_cons_zero, List.set_cons_succ, List.getElem_toArray, List.getElem_cons_zero, List.getElem_cons_succ]
              refine wpAnyH_ready (rs := [5]) (by kernel_rfl) (by simp) ?_
              refine AllReadyH.cons rfl (fun K hK => ?_) AllReadyH.nil
              go_simp
              refine (lright_any x.name wr.drew (by have := (right_size HX.out).2; omega)).mono ?_
              rintro e wz ⟨rfl, rfl⟩
              rw [HX.out]
              refine hK.out _ _ ⟨c1, c2⟩ (fun _ => ?_)
              clear hK K
              try simp only [Act.put, List.setIfInBounds_toArray, List.set_cons_zero, List.set_cons_succ, List.getElem_toArray, List.getElem_cons_zero, List.getElem_cons_succ]
              refine wpAnyH_take (i := 6) (v := .bool false) rfl (by kernel_rfl) (by kernel_rfl) (by kernel_rfl) (fun _ _ _ h => h) (Or.inl ⟨by rfl, ?yq54⟩) (by assumption) ?rq54
              case yq54 => (intro wq hSw; (try simp only [List.getElem_toArray, List.getElem_cons_zero, List.getElem_cons_succ]); go_simp; (try with_reducible rfl); all_goals (try omega))
              case rq54 =>
              try simp only [Act.put, List.setIfInBounds_toArray, List.set_cons_zero, List.set_cons_succ, List.getElem_toArray, List.getElem_cons_zero, List.getElem_cons_succ]
              refine wpAnyH_take (i := 7) (v := .bool false) rfl (by kernel_rfl) (by kernel_rfl) (by kernel_rfl) (fun _ _ _ h => h) (Or.inl ⟨by rfl, ?yq55⟩) (by assumption) ?rq55
              case yq55 => (intro wq hSw; (try simp only [List.getElem_toArray, List.getElem_cons_zero, List.getElem_cons_succ]); go_simp; (try with_reducible rfl); all_goals (try omega))
              case rq55 =>
              try simp only [Act.put, List.setIfInBounds_toArray, List.set_cons_zero, List.set_cons_succ, List.getElem_toArray, List.getElem_cons_zero, List.getElem_cons_succ]
              refine wpAnyH_take (i := 8) (v := .int .i64 (k : Int)) rfl (by kernel_rfl) (by kernel_rfl) (by kernel_rfl) (fun _ _ _ h => h) (Or.inl ⟨by rfl, ?yq56⟩) (by assumption) ?rq56
              case yq56 => (intro wq hSw; (try simp only [List.getElem_toArray, List.getElem_cons_zero, List.getElem_cons_succ]); go_simp; (try with_reducible rfl); all_goals (try omega))
              case rq56 =>
              try simp only [Act.put, List.setIfInBounds_toArray, List.set_cons_zero, List.set_cons_succ, List.getElem_toArray, List.getElem_cons_zero, List.getElem_cons_succ]
              refine wpAnyH_take (i := 9) (v := .bool true) rfl (by kernel_rfl) (by kernel_rfl) (by kernel_rfl) (fun _ _ _ h => h) (Or.inl ⟨by rfl, ?yq57⟩) (by assumption) ?rq57
              case yq57 => (intro wq hSw; (try simp only [List.getElem_toArray, List.getElem_cons_zero, List.getElem_cons_succ]); go_simp; (try with_reducible rfl); all_goals (try omega))
              case rq57 =>
              try simp only [Act.put, List.setIfInBounds_toArray, List.set_cons_zero, List.set_cons_succ, List.getElem_toArray, List.getElem_cons_zero, List.getElem_cons_succ]
              refine wpAnyH_take (i := 10) (v := .bool true) rfl (by kernel_rfl) (by kernel_rfl) (by kernel_rfl) (fun _ _ _ h => h) (Or.inl ⟨by rfl, ?yq58⟩) (by assumption) ?rq58
              case yq58 => (intro wq hSw; (try simp only [List.getElem_toArray, List.getElem_cons_zero, List.getElem_cons_succ]); go_simp; (try with_reducible rfl); all_goals (try omega))
              case rq58 =>
              try simp only [Act.put, List.setIfInBounds_toArray, List.set_cons_zero, List.set_cons_succ, List.getElem_toArray, List.getElem_cons_zero, List.getElem_cons_succ]
              refine wpAnyH_take (i := 11) (v := .slice (some ⟨gl, 0, none⟩) n cl) rfl (by kernel_rfl) (by kernel_rfl) (by kernel_rfl) (fun _ _ _ h => h) (Or.inl ⟨by rfl, ?yq59⟩) (by assumption) ?rq59
              case yq59 => (intro wq hSw; (try simp only [List.getElem_toArray, List.getElem_cons_zero, List.getElem_cons_succ]); go_simp; (try with_reducible rfl); all_goals (try omega))
              case rq59 =>
              try simp only [Act.put, List.setIfInBounds_toArray, List.set_cons_zero, List.set_cons_succ, List.getElem_toArray, List.getElem_cons_zero, List.getElem_cons_succ]
              refine wpAnyH_take (i := 12) (v := .int .i64 (k : Int)) rfl (by kernel_rfl) (by kernel_rfl) (by kernel_rfl) (fun _ _ _ h => h) (Or.inl ⟨by rfl, ?yq60⟩) (by assumption) ?rq60
              case yq60 => (intro wq hSw; (try simp only [List.getElem_toArray, List.getElem_cons_zero, List.getElem_cons_succ]); go_simp; (try with_reducible rfl); all_goals (try omega))
              case rq60 =>
              try simp only [Act.put, List.setIfInBounds_toArray, List.set_cons_zero, List.set_cons_succ, List.getElem_toArray, List.getElem_cons_zero, List.getElem_cons_succ]
              refine wpAnyH_take (i := 13) (v := .int .i64 ((k : Int) - 1)) rfl (by kernel_rfl) (by kernel_rfl) (by kernel_rfl) (fun _ _ _ h => h) (Or.inl ⟨by rfl, ?yq61⟩) (by assumption) ?rq61
              case yq61 => (intro wq hSw; (try simp only [List.getElem_toArray, List.getElem_cons_zero, List.getElem_cons_succ]); go_simp; (try with_reducible rfl); all_goals (try omega))
              case rq61 =>
              try simp only [Act.put, List.setIfInBounds_toArray, List.set_cons_zero, List.set_cons_succ, List.getElem_toArray, List.getElem_cons_zero, List.getElem_cons_succ]
              refine wpAnyH_take (i := 14) (v := .pointer (some ⟨gl, (k - 1) * 34, none⟩)) rfl (by kernel_rfl) (by kernel_rfl) (by kernel_rfl) (fun _ _ _ h => h) (Or.inl ⟨by rfl, ?yq62⟩) (by assumption) ?rq62
              case yq62 => (intro wq hSw; (try simp only [List.getElem_toArray, List.getElem_cons_zero, List.getElem_cons_succ]); go_simp; (try with_reducible rfl); all_goals (try omega))
              case rq62 =>
              try simp only [Act.put, List.setIfInBounds_toArray, List.set_cons_zero, List.set_cons_succ, List.getElem_toArray, List.getElem_cons_zero, List.getElem_cons_succ]
              refine wpAnyH_take (i := 15) (v := .pointer (some ⟨gl, (k - 1) * 34, none⟩)) rfl (by kernel_rfl) (by kernel_rfl) (by kernel_rfl) (fun _ _ _ h => h) (Or.inl ⟨by rfl, ?yq63⟩) (by assumption) ?rq63
              case yq63 => (intro wq hSw; (try simp only [List.getElem_toArray, List.getElem_cons_zero, List.getElem_cons_succ]); go_simp; (try with_reducible rfl); all_goals (try omega))
              case rq63 =>
              try simp only [Act.put, List.setIfInBounds_toArray, List.set_cons_zero, List.set_cons_succ, List.getElem_toArray, List.getElem_cons_zero, List.getElem_cons_succ]
              refine wpAnyH_take (i := 16) (v := .string y.name) rfl (by kernel_rfl) (by kernel_rfl) (by kernel_rfl) (fun _ _ _ h => h) (Or.inl ⟨by rfl, ?yq64⟩) (by assumption) ?rq64
              case yq64 => (intro wq hSw; obtain ⟨z1, z2⟩ := hSw; (try simp only [List.getElem_toArray, List.getElem_cons_zero, List.getElem_cons_succ]); go_simp; (try with_reducible rfl); all_goals (try omega))
              case rq64 =>
              try simp only [Act.put, List.setIfInBounds_toArray, List.set_cons_zero, List.set_cons_succ, List.getElem_toArray, List.getElem_cons_zero, List.getElem_cons_succ]
              refine wpAnyH_take (i := 17) (v := .slice (some ⟨gl, 0, none⟩) n cl) rfl (by kernel_rfl) (by kernel_rfl) (by kernel_rfl) (fun _ _ _ h => h) (Or.inl ⟨by rfl, ?yq65⟩) (by assumption) ?rq65
              case yq65 => (intro wq hSw; (try simp only [List.getElem_toArray, List.getElem_cons_zero, List.getElem_cons_succ]); go_simp; (try with_reducible rfl); all_goals (try omega))
              case rq65 =>
              try simp only [Act.put, List.setIfInBounds_toArray, List.set_cons_zero, List.set_cons_succ, List.getElem_toArray, List.getElem_cons_zero, List.getElem_cons_succ]
              refine wpAnyH_take (i := 18) (v := .int .i64 (k : Int)) rfl (by kernel_rfl) (by kernel_rfl) (by kernel_rfl) (fun _ _ _ h => h) (Or.inl ⟨by rfl, ?yq66⟩) (by assumption) ?rq66
              case yq66 => (intro wq hSw; (try simp only [List.getElem_toArray, List.getElem_cons_zero, List.getElem_cons_succ]); go_simp; (try with_reducible rfl); all_goals (try omega))
              case rq66 =>
              try simp only [Act.put, List.setIfInBounds_toArray, List.set_cons_zero, List.set_cons_succ, List.getElem_toArray, List.getElem_cons_zero, List.getElem_cons_succ]
              refine wpAnyH_take (i := 19) (v := .pointer (some ⟨gl, k * 34, none⟩)) rfl (by kernel_rfl) (by kernel_rfl) (by kernel_rfl) (fun _ _ _ h => h) (Or.inl ⟨by rfl, ?yq67⟩) (by assumption) ?rq67
              case yq67 => (intro wq hSw; (try simp only [List.getElem_toArray, List.getElem_cons_zero, List.getElem_cons_succ]); go_simp; (try with_reducible rfl); all_goals (try omega))
              case rq67 =>
              try simp only [Act.put, List.setIfInBounds_toArray, List.set_cons_zero, List.set_cons_succ, List.getElem_toArray, List.getElem_cons_zero, List.getElem_cons_succ]
              refine wpAnyH_take (i := 20) (v := .pointer (some ⟨gl, k * 34, none⟩)) rfl (by kernel_rfl) (by kernel_rfl) (by kernel_rfl) (fun _ _ _ h => h) (Or.inl ⟨by rfl, ?yq68⟩) (by assumption) ?rq68
              case yq68 => (intro wq hSw; (try simp only [List.getElem_toArray, List.getElem_cons_zero, List.getElem_cons_succ]); go_simp; (try with_reducible rfl); all_goals (try omega))
              case rq68 =>
              try simp only [Act.put, List.setIfInBounds_toArray, List.set_cons_zero, List.set_cons_succ, List.getElem_toArray, List.getElem_cons_zero, List.getElem_cons_succ]
              refine wpAnyH_take (i := 21) (v := .string x.name) rfl (by kernel_rfl) (by kernel_rfl) (by kernel_rfl) (fun _ _ _ h => h) (Or.inl ⟨by rfl, ?yq69⟩) (by assumption) ?rq69
              case yq69 => (intro wq hSw; obtain ⟨z1, z2⟩ := hSw; (try simp only [List.getElem_toArray, List.getElem_cons_zero, List.getElem_cons_succ]); go_simp; (try with_reducible rfl); all_goals (try omega))
              case rq69 =>
              try simp only [Act.put, List.setIfInBounds_toArray, List.set_cons_zero, List.set_cons_succ, List.getElem_toArray, List.getElem_cons_zero, List.getElem_cons_succ]
              refine wpAnyH_take (i := 22) (v := .bool false) rfl (by kernel_rfl) (by kernel_rfl) (by kernel_rfl) (fun _ _ _ h => h) (Or.inl ⟨by rfl, ?yq70⟩) (by assumption) ?rq70
              case yq70 => (intro wq hSw; (try simp only [List.getElem_toArray, List.getElem_cons_zero, List.getElem_cons_succ]); go_simp; (try with_reducible rfl); all_goals (try omega))
              case rq70 =>
              try simp only [Act.put, List.setIfInBounds_toArray, List.set_cons_zero, List.set_cons_succ, List.getElem_toArray, List.getElem_cons_zero, List.getElem_cons_succ]
              refine wpAnyH_take (i := 23) (v := .bool false) rfl (by kernel_rfl) (by kernel_rfl) (by kernel_rfl) (fun _ _ _ h => h) (Or.inl ⟨by rfl, ?yq71⟩) (by assumption) ?rq71
              case yq71 => (intro wq hSw; (try simp only [List.getElem_toArray, List.getElem_cons_zero, List.getElem_cons_succ]); go_simp; (try with_reducible rfl); all_goals (try omega))
              case rq71 =>
              try simp only [Act.put, List.setIfInBounds_toArray, List.set_cons_zero, List.set_cons_succ, List.getElem_toArray, List.getElem_cons_zero, List.getElem_cons_succ]
              refine wpAnyH_take (i := 24) (v := .bool false) rfl (by kernel_rfl) (by kernel_rfl) (by kernel_rfl) (fun _ _ _ h => h) (Or.inl ⟨by rfl, ?yq72⟩) (by assumption) ?rq72
              case yq72 => (intro wq hSw; (try simp only [List.getElem_toArray, List.getElem_cons_zero, List.getElem_cons_succ]); go_simp; (try with_reducible rfl); all_goals (try omega))
              case rq72 =>
              try simp only [Act.put, List.setIfInBounds_toArray, List.set_cons_zero, List.set_cons_succ, List.getElem_toArray, List.getElem_cons_zero, List.getElem_cons_succ]
              refine wpAnyH_done (by kernel_rfl) ?_ _
              clear hHeld
              go_wp2_with fail
              go_roundw
              case rel => exact ⟨rfl, k + 1, by omega, by go_num, HRB.out.turn (Turn.refl (fun _ => False) wr).drew id, HTr.out.drew⟩
              case measure => simp [intOf]; omega
            · obtain rfl : k = 0 := by omega
              generalize l.getD 0 rf0 = x at *
              go_wp2_with fail
              refine wp_region_held_drew (S := fun wq => wq.cell? ⟨gl, 0 * 34, none⟩ = some (.string x.name) ∧ True) (by kernel_rfl) ⟨c1, trivial⟩ (fun hHeld => ?_)
              refine wpAnyH_take (i := 0) (v := .slice (some ⟨gl, 0, none⟩) n cl) rfl (by kernel_rfl) (by kernel_rfl) (by kernel_rfl) (fun _ _ _ h => h) (Or.inl ⟨by rfl, ?yq73⟩) (by assumption) ?rq73
              case yq73 => (intro wq hSw; (try simp only [List.getElem_toArray, List.getElem_cons_zero, List.getElem_cons_succ]); go_simp; (try with_reducible rfl); all_goals (try omega))
              case rq73 =>
              try simp only [Act.put, List.setIfInBounds_toArray, List.set_cons_zero, List.set_cons_succ, List.getElem_toArray, List.getElem_cons_zero, List.getElem_cons_succ]
              refine wpAnyH_take (i := 1) (v := .int .i64 0) rfl (by kernel_rfl) (by kernel_rfl) (by kernel_rfl) (fun _ _ _ h => h) (Or.inl ⟨by rfl, ?yq74⟩) (by assumption) ?rq74
              case yq74 => (intro wq hSw; (try simp only [List.getElem_toArray, List.getElem_cons_zero, List.getElem_cons_succ]); go_simp; (try with_reducible rfl); all_goals (try omega))
              case rq74 =>
              try simp only [Act.put, List.setIfInBounds_toArray, List.set_cons_zero, List.set_cons_succ, List.getElem_toArray, List.getElem_cons_zero, List.getElem_cons_succ]
              refine wpAnyH_take (i := 2) (v := .pointer (some ⟨gl, 0, none⟩)) rfl (by kernel_rfl) (by kernel_rfl) (by kernel_rfl) (fun _ _ _ h => h) (Or.inl ⟨by rfl, ?yq75⟩) (by assumption) ?rq75
              case yq75 => (intro wq hSw; (try simp only [List.getElem_toArray, List.getElem_cons_zero, List.getElem_cons_succ]); go_simp; (try with_reducible rfl); all_goals (try omega))
              case rq75 =>
              try simp only [Act.put, List.setIfInBounds_toArray, List.set_cons_zero, List.set_cons_succ, List.getElem_toArray, List.getElem_cons_zero, List.getElem_cons_succ]
              refine wpAnyH_take (i := 3) (v := .pointer (some ⟨gl, 0, none⟩)) rfl (by kernel_rfl) (by kernel_rfl) (by kernel_rfl) (fun _ _ _ h => h) (Or.inl ⟨by rfl, ?yq76⟩) (by assumption) ?rq76
              case yq76 => (intro wq hSw; (try simp only [List.getElem_toArray, List.getElem_cons_zero, List.getElem_cons_succ]); go_simp; (try with_reducible rfl); all_goals (try omega))
              case rq76 =>
              try simp only [Act.put, List.setIfInBounds_toArray, List.set_cons_zero, List.set_cons_succ, List.getElem_toArray, List.getElem_cons_zero, List.getElem_cons_succ]
              refine wpAnyH_take (i := 4) (v := .string x.name) rfl (by kernel_rfl) (by kernel_rfl) (by kernel_rfl) (fun _ _ _ h => h) (Or.inl ⟨by rfl, ?yq77⟩) (by assumption) ?rq77
              case yq77 => (intro wq hSw; have z1 : wq.cell? ⟨gl, 0, none⟩ = some (.string x.name) := (by simpa using hSw.1); (try simp only [List.getElem_toArray, List.getElem_cons_zero, List.getElem_cons_succ]); go_simp; (try with_reducible rfl); all_goals (try omega))
              case rq77 =>
              try simp only [Act.put, List.setIfInBounds_toArray, List.set_cons_zero, List.set_cons_succ, List.getElem_toArray, List.getElem_cons_zero, List.getElem_cons_succ]
              refine wpAnyH_ready (rs := [5]) (by kernel_rfl) (by simp) ?_
              refine AllReadyH.cons rfl (fun K hK => ?_) AllReadyH.nil
              go_simp
              refine (lright_any x.name wr.drew (by have := (right_size HX.out).2; omega)).mono ?_
              rintro e wz ⟨rfl, rfl⟩
              rw [HX.out]
              refine hK.out _ _ ⟨c1, trivial⟩ (fun _ => ?_)
              clear hK K
              try simp only [Act.put, List.setIfInBounds_toArray, List.set_cons_zero, List.set_cons_succ, List.getElem_toArray, List.getElem_cons_zero, List.getElem_cons_succ]
              refine wpAnyH_take (i := 6) (v := .bool false) rfl (by kernel_rfl) (by kernel_rfl) (by kernel_rfl) (fun _ _ _ h => h) (Or.inl ⟨by rfl, ?yq78⟩) (by assumption) ?rq78
              case yq78 => (intro wq hSw; (try simp only [List.getElem_toArray, List.getElem_cons_zero, List.getElem_cons_succ]); go_simp; (try with_reducible rfl); all_goals (try omega))
              case rq78 =>
              try simp only [Act.put, List.setIfInBounds_toArray, List.set_cons_zero, List.set_cons_succ, List.getElem_toArray, List.getElem_cons_zero, List.getElem_cons_succ]
              refine wpAnyH_take (i := 7) (v := .bool false) rfl (by kernel_rfl) (by kernel_rfl) (by kernel_rfl) (fun _ _ _ h => h) (Or.inl ⟨by rfl, ?yq79⟩) (by assumption) ?rq79
              case yq79 => (intro wq hSw; (try simp only [List.getElem_toArray, List.getElem_cons_zero, List.getElem_cons_succ]); go_simp; (try with_reducible rfl); all_goals (try omega))
              case rq79 =>
              try simp only [Act.put, List.setIfInBounds_toArray, List.set_cons_zero, List.set_cons_succ, List.getElem_toArray, List.getElem_cons_zero, List.getElem_cons_succ]
              refine wpAnyH_take (i := 8) (v := .int .i64 0) rfl (by kernel_rfl) (by kernel_rfl) (by kernel_rfl) (fun _ _ _ h => h) (Or.inl ⟨by rfl, ?yq80⟩) (by assumption) ?rq80
              case yq80 => (intro wq hSw; (try simp only [List.getElem_toArray, List.getElem_cons_zero, List.getElem_cons_succ]); go_simp; (try with_reducible rfl); all_goals (try omega))
              case rq80 =>
              try simp only [Act.put, List.setIfInBounds_toArray, List.set_cons_zero, List.set_cons_succ, List.getElem_toArray, List.getElem_cons_zero, List.getElem_cons_succ]
              refine wpAnyH_take (i := 9) (v := .bool false) rfl (by kernel_rfl) (by kernel_rfl) (by kernel_rfl) (fun _ _ _ h => h) (Or.inl ⟨by rfl, ?yq81⟩) (by assumption) ?rq81
              case yq81 => (intro wq hSw; (try simp only [List.getElem_toArray, List.getElem_cons_zero, List.getElem_cons_succ]); go_simp; (try with_reducible rfl); all_goals (try omega))
              case rq81 =>
              try simp only [Act.put, List.setIfInBounds_toArray, List.set_cons_zero, List.set_cons_succ, List.getElem_toArray, List.getElem_cons_zero, List.getElem_cons_succ]
              refine wpAnyH_take (i := 10) (v := .bool false) rfl (by kernel_rfl) (by kernel_rfl) (by kernel_rfl) (fun _ _ _ h => h) (Or.inl ⟨by rfl, ?yq82⟩) (by assumption) ?rq82
              case yq82 => (intro wq hSw; (try simp only [List.getElem_toArray, List.getElem_cons_zero, List.getElem_cons_succ]); go_simp; (try with_reducible rfl); all_goals (try omega))
              case rq82 =>
              try simp only [Act.put, List.setIfInBounds_toArray, List.set_cons_zero, List.set_cons_succ, List.getElem_toArray, List.getElem_cons_zero, List.getElem_cons_succ]
              refine wpAnyH_take (i := 11) (v := undef) rfl (by kernel_rfl) (by kernel_rfl) (by kernel_rfl) (fun _ _ _ h => h) (Or.inr ⟨by rfl, rfl⟩) (by assumption) ?rq83
              case rq83 =>
              try simp only [Act.put, List.setIfInBounds_toArray, List.set_cons_zero, List.set_cons_succ, List.getElem_toArray, List.getElem_cons_zero, List.getElem_cons_succ]
              refine wpAnyH_take (i := 12) (v := undef) rfl (by kernel_rfl) (by kernel_rfl) (by kernel_rfl) (fun _ _ _ h => h) (Or.inr ⟨by rfl, rfl⟩) (by assumption) ?rq84
              case rq84 =>
              try simp only [Act.put, List.setIfInBounds_toArray, List.set_cons_zero, List.set_cons_succ, List.getElem_toArray, List.getElem_cons_zero, List.getElem_cons_succ]
              refine wpAnyH_take (i := 13) (v := undef) rfl (by kernel_rfl) (by kernel_rfl) (by kernel_rfl) (fun _ _ _ h => h) (Or.inr ⟨by rfl, rfl⟩) (by assumption) ?rq85
              case rq85 =>
              try simp only [Act.put, List.setIfInBounds_toArray, List.set_cons_zero, List.set_cons_succ, List.getElem_toArray, List.getElem_cons_zero, List.getElem_cons_succ]
              refine wpAnyH_take (i := 14) (v := undef) rfl (by kernel_rfl) (by kernel_rfl) (by kernel_rfl) (fun _ _ _ h => h) (Or.inr ⟨by rfl, rfl⟩) (by assumption) ?rq86
              case rq86 =>
              try simp only [Act.put, List.setIfInBounds_toArray, List.set_cons_zero, List.set_cons_succ, List.getElem_toArray, List.getElem_cons_zero, List.getElem_cons_succ]
              refine wpAnyH_take (i := 15) (v := undef) rfl (by kernel_rfl) (by kernel_rfl) (by kernel_rfl) (fun _ _ _ h => h) (Or.inr ⟨by rfl, rfl⟩) (by assumption) ?rq87
              case rq87 =>
              try simp only [Act.put, List.setIfInBounds_toArray, List.set_cons_zero, List.set_cons_succ, List.getElem_toArray, List.getElem_cons_zero, List.getElem_cons_succ]
              refine wpAnyH_take (i := 16) (v := undef) rfl (by kernel_rfl) (by kernel_rfl) (by kernel_rfl) (fun _ _ _ h => h) (Or.inr ⟨by rfl, rfl⟩) (by assumption) ?rq88
              case rq88 =>
              try simp only [Act.put, List.setIfInBounds_toArray, List.set_cons_zero, List.set_cons_succ, List.getElem_toArray, List.getElem_cons_zero, List.getElem_cons_succ]
              refine wpAnyH_take (i := 17) (v := undef) rfl (by kernel_rfl) (by kernel_rfl) (by kernel_rfl) (fun _ _ _ h => h) (Or.inr ⟨by rfl, rfl⟩) (by assumption) ?rq89
              case rq89 =>
              try simp only [Act.put, List.setIfInBounds_toArray, List.set_cons_zero, List.set_cons_succ, List.getElem_toArray, List.getElem_cons_zero, List.getElem_cons_succ]
              refine wpAnyH_take (i := 18) (v := undef) rfl (by kernel_rfl) (by kernel_rfl) (by kernel_rfl) (fun _ _ _ h => h) (Or.inr ⟨by rfl, rfl⟩) (by assumption) ?rq90
              case rq90 =>
              try simp only [Act.put, List.setIfInBounds_toArray, List.set_cons_zero, List.set_cons_succ, List.getElem_toArray, List.getElem_cons_zero, List.getElem_cons_succ]
              refine wpAnyH_take (i := 19) (v := undef) rfl (by kernel_rfl) (by kernel_rfl) (by kernel_rfl) (fun _ _ _ h => h) (Or.inr ⟨by rfl, rfl⟩) (by assumption) ?rq91
              case rq91 =>
              try simp only [Act.put, List.setIfInBounds_toArray, List.set_cons_zero, List.set_cons_succ, List.getElem_toArray, List.getElem_cons_zero, List.getElem_cons_succ]
              refine wpAnyH_take (i := 20) (v := undef) rfl (by kernel_rfl) (by kernel_rfl) (by kernel_rfl) (fun _ _ _ h => h) (Or.inr ⟨by rfl, rfl⟩) (by assumption) ?rq92
              case rq92 =>
              try simp only [Act.put, List.setIfInBounds_toArray, List.set_cons_zero, List.set_cons_succ, List.getElem_toArray, List.getElem_cons_zero, List.getElem_cons_succ]
              refine wpAnyH_take (i := 21) (v := undef) rfl (by kernel_rfl) (by kernel_rfl) (by kernel_rfl) (fun _ _ _ h => h) (Or.inr ⟨by rfl, rfl⟩) (by assumption) ?rq93
              case rq93 =>
              try simp only [Act.put, List.setIfInBounds_toArray, List.set_cons_zero, List.set_cons_succ, List.getElem_toArray, List.getElem_cons_zero, List.getElem_cons_succ]
              refine wpAnyH_take (i := 22) (v := undef) rfl (by kernel_rfl) (by kernel_rfl) (by kernel_rfl) (fun _ _ _ h => h) (Or.inr ⟨by rfl, rfl⟩) (by assumption) ?rq94
              case rq94 =>
              try simp only [Act.put, List.setIfInBounds_toArray, List.set_cons_zero, List.set_cons_succ, List.getElem_toArray, List.getElem_cons_zero, List.getElem_cons_succ]
              refine wpAnyH_take (i := 23) (v := .bool false) rfl (by kernel_rfl) (by kernel_rfl) (by kernel_rfl) (fun _ _ _ h => h) (Or.inl ⟨by rfl, ?yq95⟩) (by assumption) ?rq95
              case yq95 => (intro wq hSw; (try simp only [List.getElem_toArray, List.getElem_cons_zero, List.getElem_cons_succ]); go_simp; (try with_reducible rfl); all_goals (try omega))
              case rq95 =>
              try simp only [Act.put, List.setIfInBounds_toArray, List.set_cons_zero, List.set_cons_succ, List.getElem_toArray, List.getElem_cons_zero, List.getElem_cons_succ]
              refine wpAnyH_take (i := 24) (v := .bool false) rfl (by kernel_rfl) (by kernel_rfl) (by kernel_rfl) (fun _ _ _ h => h) (Or.inl ⟨by rfl, ?yq96⟩) (by assumption) ?rq96
              case yq96 => (intro wq hSw; (try simp only [List.getElem_toArray, List.getElem_cons_zero, List.getElem_cons_succ]); go_simp; (try with_reducible rfl); all_goals (try omega))
              case rq96 =>
              try simp only [Act.put, List.setIfInBounds_toArray, List.set_cons_zero, List.set_cons_succ, List.getElem_toArray, List.getElem_cons_zero, List.getElem_cons_succ]
              refine wpAnyH_done (by kernel_rfl) ?_ _
              clear hHeld
              go_wp2_with fail
              go_roundw
              case rel => exact ⟨rfl, 1, by omega, by go_num, HRB.out.turn (Turn.refl (fun _ => False) wr).drew id, HTr.out.drew⟩
              case measure => simp [intOf]; omega
          · have hd1 : decide ((k : Int) < (n : Int)) = false := decide_eq_false (by omega)
            go_wp2_with fail
            go_ret
            exact ⟨rfl, HTr.out⟩
      · have HT9 := Lib.hid (HT8.out.trans t9 (fun _ _ => id))
        clear t9 hbad
        go_wp2_with fail
        go_ret
        exact ⟨rfl, HT9.out⟩
    · rw [hk2] at hrem hrm2
      have hs64 : qs % 64 < 64 := by omega
      have hrs : ((qs : Int)).tmod 64 = ((qs % 64 : Nat) : Int) := by rw [Int.tmod_eq_emod_of_nonneg (by omega)]; omega
      have hrs2 : (qs : Int) % 64 = ((qs % 64 : Nat) : Int) := by omega
      obtain ⟨q, hq⟩ : ∃ q, qs % 64 = q := ⟨_, rfl⟩
      rw [hq] at hrs hrs2 hs64
      have hws : IntKind.u8.wrap (q : Int) = (q : Int) := by rw [IntKind.wrap_u8]; omega
      have gq : (0 : Int) ≤ (q : Int) ∧ (q : Int) < 64 := by omega
      have hC48 := HLB5.out.jc.told 48 (by have := HLB5.out.len.1; omega)
      have hrd := read_dh w5 F4 D d4 97 HLB5.out.jc.jh.dh HLB5.out.jc.room.fits (by have := HLB5.out.jc.calm.calm.len; have := HLB5.out.len.1; omega) HLB5.out.jc.calm.off
      rw [show (97 : Nat) = 49 + 48 from rfl, hC48.1] at hrd
      obtain ⟨zs, hzs⟩ : ∃ zs, C4.getD 48 [] = zs := ⟨_, rfl⟩
      rw [hzs] at hrd hC48
      have HRDd := Lib.hid (show Calls Tryd.prog 25 #[.pointer (some ⟨D, 0, none⟩), .int .i64 97] w5 (ReadDH w5 F4 D d4 zs) from hrd)
      have HZL := Lib.hid hC48.2.1
      have HZB := Lib.hid hC48.2.2
      clear hrd hC48 hzs hk2 hq HRD5
      go_wp2_with fail
      refine HRDd.out.mono ?_
      rintro e w6 ⟨Bx, rfl, hBx, hrx, hthx, _, t6⟩
      have cq : w6.cell? ⟨Bx, q, none⟩ = some (.int .u8 (zs.getD q 0)) := by
        have := hrx q (.int .u8 (zs.getD q 0)) (by
          unfold secV
          rw [List.getElem?_map]
          have hl := HZL.out
          simp only [List.getD_eq_getElem?_getD]
          rw [List.getElem?_eq_getElem (by omega)]
          simp)
        rwa [Nat.zero_add] at this
      have fq : w6.frozen? ⟨Bx, q, none⟩ = false := by
        have := (hthx q hs64).2
        rwa [Nat.zero_add] at this
      have hzq : 0 ≤ zs.getD q 0 ∧ zs.getD q 0 < 256 := HZB.out _ (by have := HZL.out; simp [List.getD, show q < zs.length by omega])
      obtain ⟨z0, hz0⟩ : ∃ z0, zs.getD q 0 = z0 := ⟨_, rfl⟩
      rw [hz0] at cq hzq
      clear hz0
      obtain ⟨y, hy⟩ : ∃ y, bits .xor .u8 z0 tn = y := ⟨_, rfl⟩
      have hyb : 0 ≤ y ∧ y < 256 := by
        rw [← hy, u8_xor _ _ hzq.1 hzq.2 htn.1 htn.2]
        have : z0.toNat ^^^ tn.toNat < 2 ^ 8 := Nat.xor_lt_two_pow (by omega) (by omega)
        omega
      have tb := (Turn.refl (fun k => k = Bx) w6).setCell (p := ⟨Bx, q, none⟩) (fun _ => rfl) (.int .u8 y)
      have hcs : ∀ i, i < 64 → (w6.setCell ⟨Bx, q, none⟩ (.int .u8 y)).cell? ⟨Bx, i, none⟩ = some (.int .u8 ((zs.set q y).getD i 0)) := fun i hi => by
        have hci : w6.cell? ⟨Bx, i, none⟩ = some (.int .u8 (zs.getD i 0)) := by
          have := hrx i (.int .u8 (zs.getD i 0)) (by
            unfold secV
            rw [List.getElem?_map]
            have hl := HZL.out
            simp only [List.getD_eq_getElem?_getD]
            rw [List.getElem?_eq_getElem (by omega)]
            simp)
          rwa [Nat.zero_add] at this
        by_cases e : i = q
        · subst e
          rw [show (zs.set i y).getD i 0 = y by have := HZL.out; simp [List.getD, show i < zs.length by omega]]
          rw [World.cell?_setCell_same _ _ _ (by rw [hci])]
        · have hso : (w6.setCell ⟨Bx, q, none⟩ (.int .u8 y)).cell? ⟨Bx, i, none⟩ = w6.cell? ⟨Bx, i, none⟩ := World.cell?_setCells_out Bx [.int .u8 y] q w6 ⟨Bx, i, none⟩ (fun _ _ => by show i < q ∨ q + 1 ≤ i; omega)
          rw [hso, hci]
          simp [List.getD, List.getElem?_set_ne (Ne.symm e)]
      have HCS := Lib.hid hcs
      have HTW := Lib.hid (show Turn (fun _ => False) W (w6.setCell ⟨Bx, q, none⟩ (.int .u8 y)) from (HT5.out.trans t6 (fun _ _ => id)).trans tb (fun k hk e => by have := HT5.out.size; omega))
      have hlb6 := (HLB5.out.turn0 t6).turn tb (fun k hk e => by have := HLB5.out.lt k hk; omega) (fun e => by have := HT5.out.size; omega)
      have HLBb := Lib.hid hlb6
      clear hcs tb hlb6 hrx hthx
      go_wp2_with fail
      clear cq fq
      have hwb : w6.setCell ⟨Bx, q, none⟩ (.int .u8 y) = w6.setCell ⟨Bx, q, none⟩ (.int .u8 y) := rfl
      generalize w6.setCell ⟨Bx, q, none⟩ (.int .u8 y) = wb at *
      have HTB := HTW
      have HTB1 := Lib.hid (show w1.heap.size ≤ wb.heap.size from Nat.le_trans (HLBb.out.bM T (.inr (.inr rfl))) (Nat.le_of_lt HLBb.out.tb.lt))
      have hl64 : (zs.set q y).length = 64 := by simpa using HZL.out
      have HSB := Lib.hid (show Src wb (.slice (some ⟨Bx, 0, none⟩) 64 64) (zs.set q y) from .inl (.inr ⟨Bx, 0, 64, by rw [hl64], by rw [hl64]; omega, fun i hi => by rw [Nat.zero_add]; exact HCS.out i (by omega)⟩))
      have HBB := Lib.hid (show BytesOk (zs.set q y) from fun x hx => by
        rcases List.mem_or_eq_of_mem_set hx with h | h
        · exact HZB.out x h
        · subst h; exact hyb)
      have HLN := Lib.hid hl64
      clear hwb hl64 hy hyb hzq t6
      have hwf := write_flush (n := 1500) HLBb.out.jc.calm (HLBb.out.jc.room.less (by omega)) ha4 (97 + a) (zs.set q y) (by omega) (by have := HLBb.out.len.1; omega) (by rw [HLN.out]; omega)
      rw [show ((97 + a : Nat) : Int) = 97 + (a : Int) by omega] at hwf
      obtain ⟨hwa1, hwr1, C6, hC6, hcalm6, hroom6, harm6⟩ := hwf
      have hwd := write_dh wb F4 D d4 (97 + (a : Int)) (.slice (some ⟨Bx, 0, none⟩) 64 64) (zs.set q y) HLBb.out.jc.jh.dh HLBb.out.jc.room.fits HSB.out HBB.out
      have HWD := Lib.hid hwd
      have HROOM1 := Lib.hid hwr1
      have HCALM := Lib.hid hcalm6
      have HROOM6 := Lib.hid hroom6
      have HARM6 := Lib.hid harm6
      clear hwd hwr1 hcalm6 hroom6 harm6 hwa1
      generalize (d4.write (97 + (a : Int)) (zs.set q y)).2 = e6 at *
      generalize (d4.write (97 + (a : Int)) (zs.set q y)).1 = d6 at *
      go_wp2_with fail
      refine HWD.out.mono ?_
      rintro e w6 ⟨rfl, F6, hdh6, hst6⟩
      have HDH6 := Lib.hid hdh6
      have HB6 := Lib.hid (show ∀ k, F6 k → w1.heap.size ≤ k from fun k hk => by
        rcases hst6.grown k hk with h | h
        · exact HLBb.out.bM k (.inl h)
        · have := HTB1.out; omega)
      have HT6 := Lib.hid (show Turn (fun _ => False) W w6 from HTB.out.trans hst6.turn (fun k hk e => by have := HLBb.out.bM k (.inl e); omega))
      have HS6 := Lib.hid (Nat.le_trans HTB1.out hst6.turn.size)
      clear hdh6 hst6
      have hfl := flush_dh w6 F6 D d6 HDH6.out HROOM1.out.fits
      have HFL := Lib.hid hfl
      clear hfl
      generalize d6.flush.2 = e7 at *
      generalize d6.flush.1 = d7 at *
      go_wp2_with fail
      refine HFL.out.mono ?_
      rintro e w7 ⟨rfl, F7, hdh7, hst7⟩
      have HDH7 := Lib.hid hdh7
      have HB7 := Lib.hid (show ∀ k, F7 k → w1.heap.size ≤ k from fun k hk => by
        rcases hst7.grown k hk with h | h
        · exact HB6.out k h
        · have := HS6.out; omega)
      have HT7 := Lib.hid (show Turn (fun _ => False) W w7 from HT6.out.trans hst7.turn (fun k hk e => by have := HB6.out k e; omega))
      have HS7 := Lib.hid (Nat.le_trans HS6.out hst7.turn.size)
      clear hdh7 hst7
      have hl6 := HLBb.out.len
      have HDC := Lib.hid (show DC w7 F7 D d7 L4 C6 (1400 + 100) from ⟨HDH7.out, HCALM.out, HROOM6.out, by omega⟩)
      go_wp2_with fail
      refine (open_h w7 F7 D d7 L4 C6 1400 HDC.out HARM6.out (by omega)).mono ?_
      rintro e w8 ⟨J8, F8, d8, L8, rfl, hj8, ha8, hJ8, hst8, hL8⟩
      have HJ8 := Lib.hid hj8
      have HB8 := Lib.hid (show ∀ k, F8 k → w1.heap.size ≤ k from fun k hk => by
        rcases hst8.grown k hk with h | h
        · exact HB7.out k h
        · have := HS7.out; omega)
      have HT8 := Lib.hid (show Turn (fun _ => False) W w8 from HT7.out.trans hst8.turn (fun k hk e => by have := HB7.out k e; omega))
      have hJb : w1.heap.size ≤ J8 := by have := HS7.out; omega
      clear hj8 hst8
      go_wp2_with fail
      refine (lopen_any w8 w1.heap.size F8 J8 D d8 L8 C6 1400 HJ8.out (by omega) (HTAB.out.turn HT8.out) (by omega) HB8.out hJb).mono ?_
      rintro e w9 ⟨t9, ⟨T9, rs9, hop, rfl, hT9, hlb9⟩ | ⟨hbad, rfl⟩⟩
      · have HT9 := Lib.hid (HT8.out.trans t9 (fun _ _ => id))
        have HLB9 := Lib.hid hlb9
        have HG := Lib.hid (opTo_good C6 12 rs9 (by omega) hop)
        clear t9 hlb9 hop
        go_wp2_with fail
        refine (all_any w9 T9 J8 rs9 HLB9.out.tb).mono ?_
        rintro e w10 ⟨gl, cl, l, rest, ex, rfl, hpm, hsr, hlc, hrb, hgl, t10⟩
        have hgd := all_good HG.out hpm hsr
        have HT10 := Lib.hid (HT9.out.trans t10 (fun _ _ => id))
        have HRB := Lib.hid hrb
        have HGD := Lib.hid hgd
        have hl12 : l.length ≤ 12 := by rw [hpm.length_eq, ← HG.out.len]; exact List.length_filter_le _ _
        obtain ⟨n, hn⟩ : ∃ n, l.length = n := ⟨_, rfl⟩
        have HNL := Lib.hid hn
        rw [hn] at hlc hl12 ⊢
        clear hgd hpm hsr hrb t10 hn
        go_wp2_with fail
        go_loopw [10, 20] (fun rv iv wr => rv = .bool false ∧ ∃ k : Nat, k ≤ n ∧ iv = .int .i64 (k : Int) ∧ RB wr gl (l ++ rest) ex ∧ Turn (fun _ => False) W wr) (fun _ iv _ => n - (intOf iv).toNat)
        case atStart => exact ⟨rfl, 0, by omega, rfl, HRB.out, HT10.out⟩
        case round =>
          clear HRB HT10
          obtain ⟨rfl, k, hk, rfl, hrb, htr⟩ := hrel
          have HRB := Lib.hid hrb
          have HTr := Lib.hid htr
          clear hrb htr
          by_cases hlt : k < n
          · have hkl : k < (l ++ rest).length := by have := HNL.out; simp; omega
            have hd1 : decide ((k : Int) < (n : Int)) = true := decide_eq_true (by omega)
            have gk : (0 : Int) ≤ (k : Int) ∧ (k : Int) < (n : Int) := by omega
            have hwk : IntKind.i64.wrap ((k : Int) + 1) = (k : Int) + 1 := by rw [IntKind.wrap_i64]; omega
            have eK : (l ++ rest).getD k rf0 = l.getD k rf0 := by simp [List.getD, List.getElem?_append_left (show k < l.length by have := HNL.out; omega)]
            have c1 : wr.cell? ⟨gl, k * 34, none⟩ = some (.string (l.getD k rf0).name) := by
              have h9 := HRB.out.row.at_ k hkl 0 _ (Rf.v0 _)
              rw [eK] at h9
              simpa using h9
            have hxm : l.getD k rf0 ∈ l := by
              rw [show l.getD k rf0 = l[k]'(by have := HNL.out; omega) by simp [List.getD, show k < l.length by have := HNL.out; omega]]
              exact List.getElem_mem _
            have HX := Lib.hid (HGD.out.1 _ hxm)
            clear hxm
            by_cases hk0 : 0 < k
            · have hd2 : decide ((0 : Int) < (k : Int)) = true := decide_eq_true (by omega)
              have hwm : IntKind.i64.wrap ((k : Int) - 1) = (k : Int) - 1 := by rw [IntKind.wrap_i64]; omega
              have gm : (0 : Int) ≤ (k : Int) - 1 ∧ (k : Int) - 1 < (n : Int) := by omega
              have gm1 : (0 : Int) ≤ (k : Int) - 1 := by omega
              have gm2 : (k : Int) - 1 < (n : Int) := by omega
              have htm : ((k : Int) - 1).toNat = k - 1 := by omega
              have eM : (l ++ rest).getD (k - 1) rf0 = l.getD (k - 1) rf0 := by simp [List.getD, List.getElem?_append_left (show k - 1 < l.length by have := HNL.out; omega)]
              have c2 : wr.cell? ⟨gl, (k - 1) * 34, none⟩ = some (.string (l.getD (k - 1) rf0).name) := by
                have h9 := HRB.out.row.at_ (k - 1) (by omega) 0 _ (Rf.v0 _)
                rw [eM] at h9
                simpa using h9
              have hlt2 := HGD.out.2 (k - 1) k (by omega) (by have := HNL.out; omega)
              have hbl : Op.bytesLess (l.getD (k - 1) rf0).name.toList (l.getD k rf0).name.toList = true := by
                rw [less_cmp, ByteArray.toList_eq, ByteArray.toList_eq]
                exact decide_eq_true hlt2
              clear hlt2 eM eK
              generalize l.getD k rf0 = x at *
              generalize l.getD (k - 1) rf0 = y at *
              go_wp2_with fail
              refine wp_region_held_drew (S := fun wq => wq.cell? ⟨gl, k * 34, none⟩ = some (.string x.name) ∧ wq.cell? ⟨gl, (k - 1) * 34, none⟩ = some (.string y.name)) (by kernel_rfl) ⟨c1, c2⟩ (fun hHeld => ?_)
              refine wpAnyH_take (i := 0) (v := .slice (some ⟨gl, 0, none⟩) n cl) rfl (by kernel_rfl) (by kernel_rfl) (by kernel_rfl) (fun _ _ _ h => h) (Or.inl ⟨by rfl, ?yq97⟩) (by assumption) ?rq97
              case yq97 => (intro wq hSw; (try simp only [List.getElem_toArray, List.getElem_cons_zero, List.getElem_cons_succ]); go_simp; (try with_reducible rfl); all_goals (try omega))
              case rq97 =>
              try simp only [Act.put, List.setIfInBounds_toArray, List.set_cons_zero, List.set_cons_succ, List.getElem_toArray, List.getElem_cons_zero, List.getElem_cons_succ]
              refine wpAnyH_take (i := 1) (v := .int .i64 (k : Int)) rfl (by kernel_rfl) (by kernel_rfl) (by kernel_rfl) (fun _ _ _ h => h) (Or.inl ⟨by rfl, ?yq98⟩) (by assumption) ?rq98
              case yq98 => (intro wq hSw; (try simp only [List.getElem_toArray, List.getElem_cons_zero, List.getElem_cons_succ]); go_simp; (try with_reducible rfl); all_goals (try omega))
              case rq98 =>
              try simp only [Act.put, List.setIfInBounds_toArray, List.set_cons_zero, List.set_cons_succ, List.getElem_toArray, List.getElem_cons_zero, List.getElem_cons_succ]
              refine wpAnyH_take (i := 2) (v := .pointer (some ⟨gl, k * 34, none⟩)) rfl (by kernel_rfl) (by kernel_rfl) (by kernel_rfl) (fun _ _ _ h => h) (Or.inl ⟨by rfl, ?yq99⟩) (by assumption) ?rq99
              case yq99 => (intro wq hSw; (try simp only [List.getElem_toArray, List.getElem_cons_zero, List.getElem_cons_succ]); go_simp; (try with_reducible rfl); all_goals (try omega))
              case rq99 =>
              try simp only [Act.put, List.setIfInBounds_toArray, List.set_cons_zero, List.set_cons_succ, List.getElem_toArray, List.getElem_cons_zero, List.getElem_cons_succ]
              refine wpAnyH_take (i := 3) (v := .pointer (some ⟨gl, k * 34, none⟩)) rfl (by kernel_rfl) (by kernel_rfl) (by kernel_rfl) (fun _ _ _ h => h) (Or.inl ⟨by rfl, ?yq100⟩) (by assumption) ?rq100
              case yq100 => (intro wq hSw; (try simp only [List.getElem_toArray, List.getElem_cons_zero, List.getElem_cons_succ]); go_simp; (try with_reducible rfl); all_goals (try omega))
              case rq100 =>
              try simp only [Act.put, List.setIfInBounds_toArray, List.set_cons_zero, List.set_cons_succ, List.getElem_toArray, List.getElem_cons_zero, List.getElem_cons_succ]
              refine wpAnyH_take (i := 4) (v := .string x.name) rfl (by kernel_rfl) (by kernel_rfl) (by kernel_rfl) (fun _ _ _ h => h) (Or.inl ⟨by rfl, ?yq101⟩) (by assumption) ?rq101
              case yq101 => (intro wq hSw; obtain ⟨z1, z2⟩ := hSw; (try simp only [List.getElem_toArray, List.getElem_cons_zero, List.getElem_cons_succ]); go_simp; (try with_reducible rfl); all_goals (try omega))
              case rq101 =>
              try simp only [Act.put, List.setIfInBounds_toArray, List.set_cons_zero, List.set_cons_succ, List.getElem_toArray, List.getElem_cons_zero, List.getElem_cons_succ]
              refine wpAnyH_ready (rs := [5]) (by kernel_rfl) (by simp) ?_
              refine AllReadyH.cons rfl (fun K hK => ?_) AllReadyH.nil
              go_simp
              refine (lright_any x.name wr.drew (by have := (right_size HX.out).2; omega)).mono ?_
              rintro e wz ⟨rfl, rfl⟩
              rw [HX.out]
              refine hK.out _ _ ⟨c1, c2⟩ (fun _ => ?_)
              clear hK K
              try simp only [Act.put, List.setIfInBounds_toArray, List.set_cons_zero, List.set_cons_succ, List.getElem_toArray, List.getElem_cons_zero, List.getElem_cons_succ]
              refine wpAnyH_take (i := 6) (v := .bool false) rfl (by kernel_rfl) (by kernel_rfl) (by kernel_rfl) (fun _ _ _ h => h) (Or.inl ⟨by rfl, ?yq102⟩) (by assumption) ?rq102
              case yq102 => (intro wq hSw; (try simp only [List.getElem_toArray, List.getElem_cons_zero, List.getElem_cons_succ]); go_simp; (try with_reducible rfl); all_goals (try omega))
              case rq102 =>
              try simp only [Act.put, List.setIfInBounds_toArray, List.set_cons_zero, List.set_cons_succ, List.getElem_toArray, List.getElem_cons_zero, List.getElem_cons_succ]
              refine wpAnyH_take (i := 7) (v := .bool false) rfl (by kernel_rfl) (by kernel_rfl) (by kernel_rfl) (fun _ _ _ h => h) (Or.inl ⟨by rfl, ?yq103⟩) (by assumption) ?rq103
              case yq103 => (intro wq hSw; (try simp only [List.getElem_toArray, List.getElem_cons_zero, List.getElem_cons_succ]); go_simp; (try with_reducible rfl); all_goals (try omega))
              case rq103 =>
              try simp only [Act.put, List.setIfInBounds_toArray, List.set_cons_zero, List.set_cons_succ, List.getElem_toArray, List.getElem_cons_zero, List.getElem_cons_succ]
              refine wpAnyH_take (i := 8) (v := .int .i64 (k : Int)) rfl (by kernel_rfl) (by kernel_rfl) (by kernel_rfl) (fun _ _ _ h => h) (Or.inl ⟨by rfl, ?yq104⟩) (by assumption) ?rq104
              case yq104 => (intro wq hSw; (try simp only [List.getElem_toArray, List.getElem_cons_zero, List.getElem_cons_succ]); go_simp; (try with_reducible rfl); all_goals (try omega))
              case rq104 =>
              try simp only [Act.put, List.setIfInBounds_toArray, List.set_cons_zero, List.set_cons_succ, List.getElem_toArray, List.getElem_cons_zero, List.getElem_cons_succ]
              refine wpAnyH_take (i := 9) (v := .bool true) rfl (by kernel_rfl) (by kernel_rfl) (by kernel_rfl) (fun _ _ _ h => h) (Or.inl ⟨by rfl, ?yq105⟩) (by assumption) ?rq105
              case yq105 => (intro wq hSw; (try simp only [List.getElem_toArray, List.getElem_cons_zero, List.getElem_cons_succ]); go_simp; (try with_reducible rfl); all_goals (try omega))
              case rq105 =>
              try simp only [Act.put, List.setIfInBounds_toArray, List.set_cons_zero, List.set_cons_succ, List.getElem_toArray, List.getElem_cons_zero, List.getElem_cons_succ]
              refine wpAnyH_take (i := 10) (v := .bool true) rfl (by kernel_rfl) (by kernel_rfl) (by kernel_rfl) (fun _ _ _ h => h) (Or.inl ⟨by rfl, ?yq106⟩) (by assumption) ?rq106
              case yq106 => (intro wq hSw; (try simp only [List.getElem_toArray, List.getElem_cons_zero, List.getElem_cons_succ]); go_simp; (try with_reducible rfl); all_goals (try omega))
              case rq106 =>
              try simp only [Act.put, List.setIfInBounds_toArray, List.set_cons_zero, List.set_cons_succ, List.getElem_toArray, List.getElem_cons_zero, List.getElem_cons_succ]
              refine wpAnyH_take (i := 11) (v := .slice (some ⟨gl, 0, none⟩) n cl) rfl (by kernel_rfl) (by kernel_rfl) (by kernel_rfl) (fun _ _ _ h => h) (Or.inl ⟨by rfl, ?yq107⟩) (by assumption) ?rq107
              case yq107 => (intro wq hSw; (try simp only [List.getElem_toArray, List.getElem_cons_zero, List.getElem_cons_succ]); go_simp; (try with_reducible rfl); all_goals (try omega))
              case rq107 =>
              try simp only [Act.put, List.setIfInBounds_toArray, List.set_cons_zero, List.set_cons_succ, List.getElem_toArray, List.getElem_cons_zero, List.getElem_cons_succ]
              refine wpAnyH_take (i := 12) (v := .int .i64 (k : Int)) rfl (by kernel_rfl) (by kernel_rfl) (by kernel_rfl) (fun _ _ _ h => h) (Or.inl ⟨by rfl, ?yq108⟩) (by assumption) ?rq108
              case yq108 => (intro wq hSw; (try simp only [List.getElem_toArray, List.getElem_cons_zero, List.getElem_cons_succ]); go_simp; (try with_reducible rfl); all_goals (try omega))
              case rq108 =>
              try simp only [Act.put, List.setIfInBounds_toArray, List.set_cons_zero, List.set_cons_succ, List.getElem_toArray, List.getElem_cons_zero, List.getElem_cons_succ]
              refine wpAnyH_take (i := 13) (v := .int .i64 ((k : Int) - 1)) rfl (by kernel_rfl) (by kernel_rfl) (by kernel_rfl) (fun _ _ _ h => h) (Or.inl ⟨by rfl, ?yq109⟩) (by assumption) ?rq109
              case yq109 => (intro wq hSw; (try simp only [List.getElem_toArray, List.getElem_cons_zero, List.getElem_cons_succ]); go_simp; (try with_reducible rfl); all_goals (try omega))
              case rq109 =>
              try simp only [Act.put, List.setIfInBounds_toArray, List.set_cons_zero, List.set_cons_succ, List.getElem_toArray, List.getElem_cons_zero, List.getElem_cons_succ]
              refine wpAnyH_take (i := 14) (v := .pointer (some ⟨gl, (k - 1) * 34, none⟩)) rfl (by kernel_rfl) (by kernel_rfl) (by kernel_rfl) (fun _ _ _ h => h) (Or.inl ⟨by rfl, ?yq110⟩) (by assumption) ?rq110
              case yq110 => (intro wq hSw; (try simp only [List.getElem_toArray, List.getElem_cons_zero, List.getElem_cons_succ]); go_simp; (try with_reducible rfl); all_goals (try omega))
              case rq110 =>
              try simp only [Act.put, List.setIfInBounds_toArray, List.set_cons_zero, List.set_cons_succ, List.getElem_toArray, List.getElem_cons_zero, List.getElem_cons_succ]
              refine wpAnyH_take (i := 15) (v := .pointer (some ⟨gl, (k - 1) * 34, none⟩)) rfl (by kernel_rfl) (by kernel_rfl) (by kernel_rfl) (fun _ _ _ h => h) (Or.inl ⟨by rfl, ?yq111⟩) (by assumption) ?rq111
              case yq111 => (intro wq hSw; (try simp only [List.getElem_toArray, List.getElem_cons_zero, List.getElem_cons_succ]); go_simp; (try with_reducible rfl); all_goals (try omega))
              case rq111 =>
              try simp only [Act.put, List.setIfInBounds_toArray, List.set_cons_zero, List.set_cons_succ, List.getElem_toArray, List.getElem_cons_zero, List.getElem_cons_succ]
              refine wpAnyH_take (i := 16) (v := .string y.name) rfl (by kernel_rfl) (by kernel_rfl) (by kernel_rfl) (fun _ _ _ h => h) (Or.inl ⟨by rfl, ?yq112⟩) (by assumption) ?rq112
              case yq112 => (intro wq hSw; obtain ⟨z1, z2⟩ := hSw; (try simp only [List.getElem_toArray, List.getElem_cons_zero, List.getElem_cons_succ]); go_simp; (try with_reducible rfl); all_goals (try omega))
              case rq112 =>
              try simp only [Act.put, List.setIfInBounds_toArray, List.set_cons_zero, List.set_cons_succ, List.getElem_toArray, List.getElem_cons_zero, List.getElem_cons_succ]
              refine wpAnyH_take (i := 17) (v := .slice (some ⟨gl, 0, none⟩) n cl) rfl (by kernel_rfl) (by kernel_rfl) (by kernel_rfl) (fun _ _ _ h => h) (Or.inl ⟨by rfl, ?yq113⟩) (by assumption) ?rq113
              case yq113 => (intro wq hSw; (try simp only [List.getElem_toArray, List.getElem_cons_zero, List.getElem_cons_succ]); go_simp; (try with_reducible rfl); all_goals (try omega))
              case rq113 =>
              try simp only [Act.put, List.setIfInBounds_toArray, List.set_cons_zero, List.set_cons_succ, List.getElem_toArray, List.getElem_cons_zero, List.getElem_cons_succ]
              refine wpAnyH_take (i := 18) (v := .int .i64 (k : Int)) rfl (by kernel_rfl) (by kernel_rfl) (by kernel_rfl) (fun _ _ _ h => h) (Or.inl ⟨by rfl, ?yq114⟩) (by assumption) ?rq114
              case yq114 => (intro wq hSw; (try simp only [List.getElem_toArray, List.getElem_cons_zero, List.getElem_cons_succ]); go_simp; (try with_reducible rfl); all_goals (try omega))
              case rq114 =>
              try simp only [Act.put, List.setIfInBounds_toArray, List.set_cons_zero, List.set_cons_succ, List.getElem_toArray, List.getElem_cons_zero, List.getElem_cons_succ]
              refine wpAnyH_take (i := 19) (v := .pointer (some ⟨gl, k * 34, none⟩)) rfl (by kernel_rfl) (by kernel_rfl) (by kernel_rfl) (fun _ _ _ h => h) (Or.inl ⟨by rfl, ?yq115⟩) (by assumption) ?rq115
              case yq115 => (intro wq hSw; (try simp only [List.getElem_toArray, List.getElem_cons_zero, List.getElem_cons_succ]); go_simp; (try with_reducible rfl); all_goals (try omega))
              case rq115 =>
              try simp only [Act.put, List.setIfInBounds_toArray, List.set_cons_zero, List.set_cons_succ, List.getElem_toArray, List.getElem_cons_zero, List.getElem_cons_succ]
              refine wpAnyH_take (i := 20) (v := .pointer (some ⟨gl, k * 34, none⟩)) rfl (by kernel_rfl) (by kernel_rfl) (by kernel_rfl) (fun _ _ _ h => h) (Or.inl ⟨by rfl, ?yq116⟩) (by assumption) ?rq116
              case yq116 => (intro wq hSw; (try simp only [List.getElem_toArray, List.getElem_cons_zero, List.getElem_cons_succ]); go_simp; (try with_reducible rfl); all_goals (try omega))
              case rq116 =>
              try simp only [Act.put, List.setIfInBounds_toArray, List.set_cons_zero, List.set_cons_succ, List.getElem_toArray, List.getElem_cons_zero, List.getElem_cons_succ]
              refine wpAnyH_take (i := 21) (v := .string x.name) rfl (by kernel_rfl) (by kernel_rfl) (by kernel_rfl) (fun _ _ _ h => h) (Or.inl ⟨by rfl, ?yq117⟩) (by assumption) ?rq117
              case yq117 => (intro wq hSw; obtain ⟨z1, z2⟩ := hSw; (try simp only [List.getElem_toArray, List.getElem_cons_zero, List.getElem_cons_succ]); go_simp; (try with_reducible rfl); all_goals (try omega))
              case rq117 =>
              try simp only [Act.put, List.setIfInBounds_toArray, List.set_cons_zero, List.set_cons_succ, List.getElem_toArray, List.getElem_cons_zero, List.getElem_cons_succ]
              refine wpAnyH_take (i := 22) (v := .bool false) rfl (by kernel_rfl) (by kernel_rfl) (by kernel_rfl) (fun _ _ _ h => h) (Or.inl ⟨by rfl, ?yq118⟩) (by assumption) ?rq118
              case yq118 => (intro wq hSw; (try simp only [List.getElem_toArray, List.getElem_cons_zero, List.getElem_cons_succ]); go_simp; (try with_reducible rfl); all_goals (try omega))
              case rq118 =>
              try simp only [Act.put, List.setIfInBounds_toArray, List.set_cons_zero, List.set_cons_succ, List.getElem_toArray, List.getElem_cons_zero, List.getElem_cons_succ]
              refine wpAnyH_take (i := 23) (v := .bool false) rfl (by kernel_rfl) (by kernel_rfl) (by kernel_rfl) (fun _ _ _ h => h) (Or.inl ⟨by rfl, ?yq119⟩) (by assumption) ?rq119
              case yq119 => (intro wq hSw; (try simp only [List.getElem_toArray, List.getElem_cons_zero, List.getElem_cons_succ]); go_simp; (try with_reducible rfl); all_goals (try omega))
              case rq119 =>
              try simp only [Act.put, List.setIfInBounds_toArray, List.set_cons_zero, List.set_cons_succ, List.getElem_toArray, List.getElem_cons_zero, List.getElem_cons_succ]
              refine wpAnyH_take (i := 24) (v := .bool false) rfl (by kernel_rfl) (by kernel_rfl) (by kernel_rfl) (fun _ _ _ h => h) (Or.inl ⟨by rfl, ?yq120⟩) (by assumption) ?rq120
              case yq120 => (intro wq hSw; (try simp only [List.getElem_toArray, List.getElem_cons_zero, List.getElem_cons_succ]); go_simp; (try with_reducible rfl); all_goals (try omega))
              case rq120 =>
              try simp only [Act.put, List.setIfInBounds_toArray, List.set_cons_zero, List.set_cons_succ, List.getElem_toArray, List.getElem_cons_zero, List.getElem_cons_succ]
              refine wpAnyH_done (by kernel_rfl) ?_ _
              clear hHeld
              go_wp2_with fail
              go_roundw
              case rel => exact ⟨rfl, k + 1, by omega, by go_num, HRB.out.turn (Turn.refl (fun _ => False) wr).drew id, HTr.out.drew⟩
              case measure => simp [intOf]; omega
            · obtain rfl : k = 0 := by omega
              generalize l.getD 0 rf0 = x at *
              go_wp2_with fail
              refine wp_region_held_drew (S := fun wq => wq.cell? ⟨gl, 0 * 34, none⟩ = some (.string x.name) ∧ True) (by kernel_rfl) ⟨c1, trivial⟩ (fun hHeld => ?_)
              refine wpAnyH_take (i := 0) (v := .slice (some ⟨gl, 0, none⟩) n cl) rfl (by kernel_rfl) (by kernel_rfl) (by kernel_rfl) (fun _ _ _ h => h) (Or.inl ⟨by rfl, ?yq121⟩) (by assumption) ?rq121
              case yq121 => (intro wq hSw; (try simp only [List.getElem_toArray, List.getElem_cons_zero, List.getElem_cons_succ]); go_simp; (try with_reducible rfl); all_goals (try omega))
              case rq121 =>
              try simp only [Act.put, List.setIfInBounds_toArray, List.set_cons_zero, List.set_cons_succ, List.getElem_toArray, List.getElem_cons_zero, List.getElem_cons_succ]
              refine wpAnyH_take (i := 1) (v := .int .i64 0) rfl (by kernel_rfl) (by kernel_rfl) (by kernel_rfl) (fun _ _ _ h => h) (Or.inl ⟨by rfl, ?yq122⟩) (by assumption) ?rq122
              case yq122 => (intro wq hSw; (try simp only [List.getElem_toArray, List.getElem_cons_zero, List.getElem_cons_succ]); go_simp; (try with_reducible rfl); all_goals (try omega))
              case rq122 =>
              try simp only [Act.put, List.setIfInBounds_toArray, List.set_cons_zero, List.set_cons_succ, List.getElem_toArray, List.getElem_cons_zero, List.getElem_cons_succ]
              refine wpAnyH_take (i := 2) (v := .pointer (some ⟨gl, 0, none⟩)) rfl (by kernel_rfl) (by kernel_rfl) (by kernel_rfl) (fun _ _ _ h => h) (Or.inl ⟨by rfl, ?yq123⟩) (by assumption) ?rq123
              case yq123 => (intro wq hSw; (try simp only [List.getElem_toArray, List.getElem_cons_zero, List.getElem_cons_succ]); go_simp; (try with_reducible rfl); all_goals (try omega))
              case rq123 =>
              try simp only [Act.put, List.setIfInBounds_toArray, List.set_cons_zero, List.set_cons_succ, List.getElem_toArray, List.getElem_cons_zero, List.getElem_cons_succ]
              refine wpAnyH_take (i := 3) (v := .pointer (some ⟨gl, 0, none⟩)) rfl (by kernel_rfl) (by kernel_rfl) (by kernel_rfl) (fun _ _ _ h => h) (Or.inl ⟨by rfl, ?yq124⟩) (by assumption) ?rq124
              case yq124 => (intro wq hSw; (try simp only [List.getElem_toArray, List.getElem_cons_zero, List.getElem_cons_succ]); go_simp; (try with_reducible rfl); all_goals (try omega))
              case rq124 =>
              try simp only [Act.put, List.setIfInBounds_toArray, List.set_cons_zero, List.set_cons_succ, List.getElem_toArray, List.getElem_cons_zero, List.getElem_cons_succ]
              refine wpAnyH_take (i := 4) (v := .string x.name) rfl (by kernel_rfl) (by kernel_rfl) (by kernel_rfl) (fun _ _ _ h => h) (Or.inl ⟨by rfl, ?yq125⟩) (by assumption) ?rq125
              case yq125 => (intro wq hSw; have z1 : wq.cell? ⟨gl, 0, none⟩ = some (.string x.name) := (by simpa using hSw.1); (try simp only [List.getElem_toArray, List.getElem_cons_zero, List.getElem_cons_succ]); go_simp; (try with_reducible rfl); all_goals (try omega))
              case rq125 =>
              try simp only [Act.put, List.setIfInBounds_toArray, List.set_cons_zero, List.set_cons_succ, List.getElem_toArray, List.getElem_cons_zero, List.getElem_cons_succ]
              refine wpAnyH_ready (rs := [5]) (by kernel_rfl) (by simp) ?_
              refine AllReadyH.cons rfl (fun K hK => ?_) AllReadyH.nil
              go_simp
              refine (lright_any x.name wr.drew (by have := (right_size HX.out).2; omega)).mono ?_
              rintro e wz ⟨rfl, rfl⟩
              rw [HX.out]
              refine hK.out _ _ ⟨c1, trivial⟩ (fun _ => ?_)
              clear hK K
              try simp only [Act.put, List.setIfInBounds_toArray, List.set_cons_zero, List.set_cons_succ, List.getElem_toArray, List.getElem_cons_zero, List.getElem_cons_succ]
              refine wpAnyH_take (i := 6) (v := .bool false) rfl (by kernel_rfl) (by kernel_rfl) (by kernel_rfl) (fun _ _ _ h => h) (Or.inl ⟨by rfl, ?yq126⟩) (by assumption) ?rq126
              case yq126 => (intro wq hSw; (try simp only [List.getElem_toArray, List.getElem_cons_zero, List.getElem_cons_succ]); go_simp; (try with_reducible rfl); all_goals (try omega))
              case rq126 =>
              try simp only [Act.put, List.setIfInBounds_toArray, List.set_cons_zero, List.set_cons_succ, List.getElem_toArray, List.getElem_cons_zero, List.getElem_cons_succ]
              refine wpAnyH_take (i := 7) (v := .bool false) rfl (by kernel_rfl) (by kernel_rfl) (by kernel_rfl) (fun _ _ _ h => h) (Or.inl ⟨by rfl, ?yq127⟩) (by assumption) ?rq127
              case yq127 => (intro wq hSw; (try simp only [List.getElem_toArray, List.getElem_cons_zero, List.getElem_cons_succ]); go_simp; (try with_reducible rfl); all_goals (try omega))
              case rq127 =>
              try simp only [Act.put, List.setIfInBounds_toArray, List.set_cons_zero, List.set_cons_succ, List.getElem_toArray, List.getElem_cons_zero, List.getElem_cons_succ]
              refine wpAnyH_take (i := 8) (v := .int .i64 0) rfl (by kernel_rfl) (by kernel_rfl) (by kernel_rfl) (fun _ _ _ h => h) (Or.inl ⟨by rfl, ?yq128⟩) (by assumption) ?rq128
              case yq128 => (intro wq hSw; (try simp only [List.getElem_toArray, List.getElem_cons_zero, List.getElem_cons_succ]); go_simp; (try with_reducible rfl); all_goals (try omega))
              case rq128 =>
              try simp only [Act.put, List.setIfInBounds_toArray, List.set_cons_zero, List.set_cons_succ, List.getElem_toArray, List.getElem_cons_zero, List.getElem_cons_succ]
              refine wpAnyH_take (i := 9) (v := .bool false) rfl (by kernel_rfl) (by kernel_rfl) (by kernel_rfl) (fun _ _ _ h => h) (Or.inl ⟨by rfl, ?yq129⟩) (by assumption) ?rq129
              case yq129 => (intro wq hSw; (try simp only [List.getElem_toArray, List.getElem_cons_zero, List.getElem_cons_succ]); go_simp; (try with_reducible rfl); all_goals (try omega))
              case rq129 =>
              try simp only [Act.put, List.setIfInBounds_toArray, List.set_cons_zero, List.set_cons_succ, List.getElem_toArray, List.getElem_cons_zero, List.getElem_cons_succ]
              refine wpAnyH_take (i := 10) (v := .bool false) rfl (by kernel_rfl) (by kernel_rfl) (by kernel_rfl) (fun _ _ _ h => h) (Or.inl ⟨by rfl, ?yq130⟩) (by assumption) ?rq130
              case yq130 => (intro wq hSw; (try simp only [List.getElem_toArray, List.getElem_cons_zero, List.getElem_cons_succ]); go_simp; (try with_reducible rfl); all_goals (try omega))
              case rq130 =>
              try simp only [Act.put, List.setIfInBounds_toArray, List.set_cons_zero, List.set_cons_succ, List.getElem_toArray, List.getElem_cons_zero, List.getElem_cons_succ]
              refine wpAnyH_take (i := 11) (v := undef) rfl (by kernel_rfl) (by kernel_rfl) (by kernel_rfl) (fun _ _ _ h => h) (Or.inr ⟨by rfl, rfl⟩) (by assumption) ?rq131
              case rq131 =>
              try simp only [Act.put, List.setIfInBounds_toArray, List.set_cons_zero, List.set_cons_succ, List.getElem_toArray, List.getElem_cons_zero, List.getElem_cons_succ]
              refine wpAnyH_take (i := 12) (v := undef) rfl (by kernel_rfl) (by kernel_rfl) (by kernel_rfl) (fun _ _ _ h => h) (Or.inr ⟨by rfl, rfl⟩) (by assumption) ?rq132
              case rq132 =>
              try simp only [Act.put, List.setIfInBounds_toArray, List.set_cons_zero, List.set_cons_succ, List.getElem_toArray, List.getElem_cons_zero, List.getElem_cons_succ]
              refine wpAnyH_take (i := 13) (v := undef) rfl (by kernel_rfl) (by kernel_rfl) (by kernel_rfl) (fun _ _ _ h => h) (Or.inr ⟨by rfl, rfl⟩) (by assumption) ?rq133
              case rq133 =>
              try simp only [Act.put, List.setIfInBounds_toArray, List.set_cons_zero, List.set_cons_succ, List.getElem_toArray, List.getElem_cons_zero, List.getElem_cons_succ]
              refine wpAnyH_take (i := 14) (v := undef) rfl (by kernel_rfl) (by kernel_rfl) (by kernel_rfl) (fun _ _ _ h => h) (Or.inr ⟨by rfl, rfl⟩) (by assumption) ?rq134
              case rq134 =>
              try simp only [Act.put, List.setIfInBounds_toArray, List.set_cons_zero, List.set_cons_succ, List.getElem_toArray, List.getElem_cons_zero, List.getElem_cons_succ]
              refine wpAnyH_take (i := 15) (v := undef) rfl (by kernel_rfl) (by kernel_rfl) (by kernel_rfl) (fun _ _ _ h => h) (Or.inr ⟨by rfl, rfl⟩) (by assumption) ?rq135
              case rq135 =>
              try simp only [Act.put, List.setIfInBounds_toArray, List.set_cons_zero, List.set_cons_succ, List.getElem_toArray, List.getElem_cons_zero, List.getElem_cons_succ]
              refine wpAnyH_take (i := 16) (v := undef) rfl (by kernel_rfl) (by kernel_rfl) (by kernel_rfl) (fun _ _ _ h => h) (Or.inr ⟨by rfl, rfl⟩) (by assumption) ?rq136
              case rq136 =>
              try simp only [Act.put, List.setIfInBounds_toArray, List.set_cons_zero, List.set_cons_succ, List.getElem_toArray, List.getElem_cons_zero, List.getElem_cons_succ]
              refine wpAnyH_take (i := 17) (v := undef) rfl (by kernel_rfl) (by kernel_rfl) (by kernel_rfl) (fun _ _ _ h => h) (Or.inr ⟨by rfl, rfl⟩) (by assumption) ?rq137
              case rq137 =>
              try simp only [Act.put, List.setIfInBounds_toArray, List.set_cons_zero, List.set_cons_succ, List.getElem_toArray, List.getElem_cons_zero, List.getElem_cons_succ]
              refine wpAnyH_take (i := 18) (v := undef) rfl (by kernel_rfl) (by kernel_rfl) (by kernel_rfl) (fun _ _ _ h => h) (Or.inr ⟨by rfl, rfl⟩) (by assumption) ?rq138
              case rq138 =>
              try simp only [Act.put, List.setIfInBounds_toArray, List.set_cons_zero, List.set_cons_succ, List.getElem_toArray, List.getElem_cons_zero, List.getElem_cons_succ]
              refine wpAnyH_take (i := 19) (v := undef) rfl (by kernel_rfl) (by kernel_rfl) (by kernel_rfl) (fun _ _ _ h => h) (Or.inr ⟨by rfl, rfl⟩) (by assumption) ?rq139
              case rq139 =>
              try simp only [Act.put, List.setIfInBounds_toArray, List.set_cons_zero, List.set_cons_succ, List.getElem_toArray, List.getElem_cons_zero, List.getElem_cons_succ]
              refine wpAnyH_take (i := 20) (v := undef) rfl (by kernel_rfl) (by kernel_rfl) (by kernel_rfl) (fun _ _ _ h => h) (Or.inr ⟨by rfl, rfl⟩) (by assumption) ?rq140
              case rq140 =>
              try simp only [Act.put, List.setIfInBounds_toArray, List.set_cons_zero, List.set_cons_succ, List.getElem_toArray, List.getElem_cons_zero, List.getElem_cons_succ]
              refine wpAnyH_take (i := 21) (v := undef) rfl (by kernel_rfl) (by kernel_rfl) (by kernel_rfl) (fun _ _ _ h => h) (Or.inr ⟨by rfl, rfl⟩) (by assumption) ?rq141
              case rq141 =>
              try simp only [Act.put, List.setIfInBounds_toArray, List.set_cons_zero, List.set_cons_succ, List.getElem_toArray, List.getElem_cons_zero, List.getElem_cons_succ]
              refine wpAnyH_take (i := 22) (v := undef) rfl (by kernel_rfl) (by kernel_rfl) (by kernel_rfl) (fun _ _ _ h => h) (Or.inr ⟨by rfl, rfl⟩) (by assumption) ?rq142
              case rq142 =>
              try simp only [Act.put, List.setIfInBounds_toArray, List.set_cons_zero, List.set_cons_succ, List.getElem_toArray, List.getElem_cons_zero, List.getElem_cons_succ]
              refine wpAnyH_take (i := 23) (v := .bool false) rfl (by kernel_rfl) (by kernel_rfl) (by kernel_rfl) (fun _ _ _ h => h) (Or.inl ⟨by rfl, ?yq143⟩) (by assumption) ?rq143
              case yq143 => (intro wq hSw; (try simp only [List.getElem_toArray, List.getElem_cons_zero, List.getElem_cons_succ]); go_simp; (try with_reducible rfl); all_goals (try omega))
              case rq143 =>
              try simp only [Act.put, List.setIfInBounds_toArray, List.set_cons_zero, List.set_cons_succ, List.getElem_toArray, List.getElem_cons_zero, List.getElem_cons_succ]
              refine wpAnyH_take (i := 24) (v := .bool false) rfl (by kernel_rfl) (by kernel_rfl) (by kernel_rfl) (fun _ _ _ h => h) (Or.inl ⟨by rfl, ?yq144⟩) (by assumption) ?rq144
              case yq144 => (intro wq hSw; (try simp only [List.getElem_toArray, List.getElem_cons_zero, List.getElem_cons_succ]); go_simp; (try with_reducible rfl); all_goals (try omega))
              case rq144 =>
              try simp only [Act.put, List.setIfInBounds_toArray, List.set_cons_zero, List.set_cons_succ, List.getElem_toArray, List.getElem_cons_zero, List.getElem_cons_succ]
              refine wpAnyH_done (by kernel_rfl) ?_ _
              clear hHeld
              go_wp2_with fail
              go_roundw
              case rel => exact ⟨rfl, 1, by omega, by go_num, HRB.out.turn (Turn.refl (fun _ => False) wr).drew id, HTr.out.drew⟩
              case measure => simp [intOf]; omega
          · have hd1 : decide ((k : Int) < (n : Int)) = false := decide_eq_false (by omega)
            go_wp2_with fail
            go_ret
            exact ⟨rfl, HTr.out⟩
      · have HT9 := Lib.hid (HT8.out.trans t9 (fun _ _ => id))
        clear t9 hbad
        go_wp2_with fail
        go_ret
        exact ⟨rfl, HT9.out⟩
  · have d64 : decide (64 < (N : Int)) = true := decide_eq_true (by omega)
    go_wp2_with fail
    refine (lawake_any w1 (HTAB.out.turn HT1.out)).mono ?_
    rintro e w2 ⟨rfl, t2⟩
    have HT2 := Lib.hid (HT1.out.trans t2 (fun _ _ => id))
    clear t2
    go_wp2_with fail
    go_ret
    exact ⟨rfl, HT2.out⟩
end Go.Proofs.YtnenkclihgeacaaDoor
