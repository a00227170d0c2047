/- Own texts, packed: Fu. -/
import Derived.Test.YtnenkclihgeacaaDoorP18
/- Own contracts: as many refs as may be. No statement is proved here. -/
namespace Go.Proofs.YtnenkclihgeacaaDoor
set_option maxRecDepth 100000
open Go.RowKit
set_option linter.unusedVariables false
set_option linter.unusedSimpArgs false

theorem build35z (w : World) : (Instr.build 35 #[]).run Tryd.prog w = .ok (.agg (keyV (List.replicate 32 0)).toArray) w := by kernel_rfl
theorem exec_build35z (ev : Operand → Value) (op : Oper) (ho : op.op = .build 35 #[]) (w : World) : (execOp ev op).run Tryd.prog w = .ok (.value (.agg (keyV (List.replicate 32 0)).toArray)) w := by
  unfold execOp
  simp only [ho, List.map_toArray, List.map_nil, Sem.run_bind, Sem.run_pure, build35z, Result.andThen_ok]
theorem LB.less {w : World} {B : Nat} {F : Nat → Prop} {T J D : Nat} {d : DiskM} {L : Nat} {C : List (List Int)} {n m : Nat} {rs : List Rf} (h : LB w B F T J D d L C n rs) (hm : m ≤ n) : LB w B F T J D d L C m rs :=
  { h with jc := { h.jc with room := h.jc.room.less hm, lim := by have := h.jc.lim; omega } }
def nmS (i : Nat) : ByteArray := ({ data := #[110] } : ByteArray) ++ strOfNums [97 + (i : Int)]
def fuR (i : Nat) : Rf := ⟨nmS i, List.replicate 32 0, false⟩
def fiT (k : Nat) : List Rf := (List.range 12).map fun j => if j < k then fuR j else rf0
theorem fuR_ok (i : Nat) : (fuR i).Ok := ⟨by simp [fuR], fun x hx => by rw [List.eq_of_mem_replicate hx]; omega⟩
theorem nm_right : ∀ i : Fin 13, rightB (nmS i.val) = true := by decide +kernel
theorem fi_none : ∀ i : Fin 13, (fiT i.val).findIdx? (nmB (nmS i.val)) = none := by decide +kernel
theorem fi_free : ∀ i : Fin 12, (fiT i.val).findIdx? frB = some i.val := by decide +kernel
theorem fi_full : (fiT 12).findIdx? frB = none := by decide +kernel
theorem fi_set : ∀ i : Fin 12, (fiT i.val).set i.val (fuR i.val) = fiT (i.val + 1) := by decide +kernel
theorem fi_zero : fiT 0 = bl := by decide +kernel
theorem fi_name : ∀ i : Fin 12, (fiT 12).findIdx? (nmB (nmS i.val)) = some i.val := by decide +kernel
def zS : ByteArray := { data := #[122] }
def zR : Rf := ⟨zS, List.replicate 32 0, true⟩
theorem zR_ok : zR.Ok := ⟨by simp [zR], fun x hx => by rw [List.eq_of_mem_replicate hx]; omega⟩
theorem z_right : rightB zS = true := by decide +kernel
theorem z_none : ∀ i : Fin 12, ((fiT 12).set i.val rf0).findIdx? (nmB zS) = none := by decide +kernel
theorem z_free : ∀ i : Fin 12, ((fiT 12).set i.val rf0).findIdx? frB = some i.val := by decide +kernel
theorem z_name : ∀ i : Fin 12, (((fiT 12).set i.val rf0).set i.val zR).findIdx? (nmB zS) = some i.val := by decide +kernel
theorem z_get : ∀ i : Fin 12, (((fiT 12).set i.val rf0).set i.val zR).getD i.val rf0 = zR := by decide +kernel
theorem z_all : ∀ i : Fin 12, ((((fiT 12).set i.val rf0).set i.val zR).filter hasN).length = 12 := by decide +kernel
theorem z_size : ∀ i : Fin 12, ∀ x ∈ ((fiT 12).set i.val rf0).set i.val zR, x.name.size ≤ 12 := by decide +kernel

set_option maxHeartbeats 8000000 in
theorem lfull_walk (m : Int) (hm : 0 ≤ m ∧ m < 256) (W : World) (tab : Tab W) : Calls Tryd.prog 7 #[.int .u8 m] W fun e w' => e = .returned (.bool true) ∧ Turn (fun _ => False) W w' := by
  obtain ⟨q, rfl⟩ := Int.eq_ofNat_of_zero_le hm.1
  have HTAB := Lib.hid tab
  clear tab
  go_enter Tryd.func7, Tryd.ntmps7
  go_wp2_with fail
  refine (fresh_any W 5000 HTAB.out (by omega)).mono ?_
  rintro e w1 ⟨D, T, J, F, d, L, rfl, hlb, ha, hL, t1⟩
  have HLB := Lib.hid (show LB w1 W.heap.size F T J D d L blankC (600 + 200 * (22 - 0)) (fiT (min 0 12)) from by rw [show min 0 12 = 0 from rfl, fi_zero]; exact hlb)
  have HT1 := Lib.hid t1
  clear hlb t1 hL
  go_wp2_with fail
  go_loopw [2, 6] (fun rv iv wr => rv = .bool false ∧ ∃ i : Nat, i ≤ 13 ∧ iv = .int .i64 (i : Int) ∧ ∃ F d L C, LB wr W.heap.size F T J D d L C (600 + 200 * (22 - i)) (fiT (min i 12)) ∧ d.armed = false ∧ Turn (fun _ => False) W wr) (fun _ iv _ => 13 - (intOf iv).toNat)
  case atStart => exact ⟨rfl, 0, by omega, rfl, F, d, L, blankC, HLB.out, ha, HT1.out⟩
  case round =>
    clear HLB HT1 ha
    obtain ⟨rfl, i, hi, rfl, F, d, L, C, hlb, ha, hT⟩ := hrel
    have HLB := Lib.hid hlb
    have HT := Lib.hid hT
    clear hlb hT
    by_cases hlt : i < 13
    · have hd1 : decide ((i : Int) < 13) = true := decide_eq_true (by omega)
      have hw1 : IntKind.i64.wrap (97 + (i : Int)) = 97 + (i : Int) := by rw [IntKind.wrap_i64]; omega
      have hw2 : IntKind.u8.wrap (97 + (i : Int)) = 97 + (i : Int) := by rw [IntKind.wrap_u8]; omega
      have hw3 : IntKind.i64.wrap ((i : Int) + 1) = (i : Int) + 1 := by rw [IntKind.wrap_i64]; omega
      have hbx := box_alloc wr 5 [.int .u8 (97 + (i : Int))]
      have hcv : (convert 31 9 (.slice (some ⟨wr.heap.size, 0, none⟩) 1 1)).run Tryd.prog (wr.alloc (.cells #[.int .u8 (97 + (i : Int))] 5)) = .ok (.string (strOfNums [97 + (i : Int)])) (wr.alloc (.cells #[.int .u8 (97 + (i : Int))] 5)) := Reads.conv (.inr ⟨wr.heap.size, 0, 1, rfl, by simp, fun j hj => by
        have : j = 0 := by simp at hj; omega
        subst this
        exact hbx.cell 0 _ rfl⟩)
      obtain ⟨w2, hw2e⟩ : ∃ w2, wr.alloc (.cells #[.int .u8 (97 + (i : Int))] 5) = w2 := ⟨_, rfl⟩
      rw [hw2e] at hcv
      rw [show wr.alloc (.cells [Value.int .u8 (97 + (i : Int))].toArray 5) = w2 from hw2e] at hbx
      have HB := Lib.hid hbx
      clear hbx
      go_wp2_with (with_reducible (show wpList _ _ _ (Oper.mk (some 29) (.build 37 _) _ _ _ _ :: _) _ _); refine still ?_)
      refine list_exec rfl _ _ (exec_build37n _ _ _ rfl (nmS i) (by rfl) _) ?_
      go_wp2_with fail
      have HLB2 := Lib.hid (show LB w2 W.heap.size F T J D d L C (600 + 200 * (21 - i) + 200) (fiT (min i 12)) from by
        have h9 := HLB.out.turn0 HB.out.turn
        rwa [show 600 + 200 * (22 - i) = 600 + 200 * (21 - i) + 200 by omega] at h9)
      have HT2 := Lib.hid (HT.out.trans HB.out.turn (fun _ _ => id))
      clear hcv
      by_cases h12 : i < 12
      · refine (make_any w2 W.heap.size F T J D d L C (600 + 200 * (21 - i)) (fiT (min i 12)) (fuR i) HLB2.out (fuR_ok i)).mono ?_
        intro e w3 hmk
        rw [show min i 12 = i by omega] at hmk
        rcases hmk with ⟨h1, _⟩ | ⟨_, h1, _⟩ | ⟨_, _, h1, _⟩ | ⟨_, _, k, h1, hk12, hly⟩
        · rw [show (fuR i).name = nmS i from rfl, nm_right ⟨i, hlt⟩] at h1; cases h1
        · exact absurd (fi_none ⟨i, hlt⟩) h1
        · rw [fi_free ⟨i, h12⟩] at h1; cases h1
        rw [fi_free ⟨i, h12⟩] at h1
        cases h1
        obtain ⟨rfl, F3, d3, L3, hlb3, ha3, hs3⟩ := hly.ok ha
        rw [fi_set ⟨i, h12⟩] at hlb3
        have HLB3 := Lib.hid hlb3
        have HT3 := Lib.hid (show Turn (fun _ => False) W w3 from HT2.out.trans hs3.turn (fun k hk e => by have := HLB.out.bM k e; omega))
        clear hlb3 hs3 hly
        have dd : decide ((i : Int) < 12) = true := decide_eq_true (by omega)
        have dn : ((i : Int) == 12) = false := by rw [beq_eq_false_iff_ne]; omega
        go_wp2_with fail
        go_roundw
        case rel => exact ⟨rfl, i + 1, by omega, by go_num, F3, d3, L3, _, by rw [show 22 - (i + 1) = 21 - i by omega, show min (i + 1) 12 = i + 1 by omega]; exact HLB3.out, ha3, HT3.out⟩
        case measure => simp [intOf]; omega
      · obtain rfl : i = 12 := by omega
        refine (make_any w2 _ F T J D d L C _ _ (fuR 12) HLB2.out (fuR_ok 12)).mono ?_
        intro e w3 hmk
        rcases hmk with ⟨h1, _⟩ | ⟨_, h1, _⟩ | ⟨_, _, h1, rfl, t3⟩ | ⟨_, _, k, h1, _⟩
        · rw [show (fuR 12).name = nmS 12 from rfl, nm_right ⟨12, by omega⟩] at h1; cases h1
        · exact absurd (fi_none ⟨12, by omega⟩) h1
        · have HLB3 := Lib.hid (HLB2.out.turn0 t3)
          have HT3 := Lib.hid (HT2.out.trans t3 (fun _ _ => id))
          clear t3
          go_wp2_with fail
          go_roundw
          case rel => exact ⟨rfl, 13, by omega, by go_num, F, d, L, C, LB.less HLB3.out (by omega), ha, HT3.out⟩
          case measure => simp [intOf]
        · have h9 : (fiT 12).findIdx? frB = some k := h1
          rw [fi_full] at h9; cases h9
    · obtain rfl : i = 13 := by omega
      have h2 := HTAB.out.1
      have hr12 : q % 12 < 12 := by omega
      have hrem : ((q : Int)).tmod 12 = ((q % 12 : Nat) : Int) := by rw [Int.tmod_eq_emod_of_nonneg (by omega)]; omega
      have hrm2 : (q : Int) % 12 = ((q % 12 : Nat) : Int) := by omega
      obtain ⟨r, hr⟩ : ∃ r, q % 12 = r := ⟨_, rfl⟩
      rw [hr] at hrem hrm2 hr12
      have hwr : IntKind.u8.wrap (r : Int) = (r : Int) := by rw [IntKind.wrap_u8]; omega
      have hw2 : IntKind.u8.wrap (97 + (r : Int)) = 97 + (r : Int) := by rw [IntKind.wrap_u8]; omega
      have hbx := box_alloc wr 5 [.int .u8 (97 + (r : Int))]
      have hcv : (convert 31 9 (.slice (some ⟨wr.heap.size, 0, none⟩) 1 1)).run Tryd.prog (wr.alloc (.cells #[.int .u8 (97 + (r : Int))] 5)) = .ok (.string (strOfNums [97 + (r : Int)])) (wr.alloc (.cells #[.int .u8 (97 + (r : Int))] 5)) := Reads.conv (.inr ⟨wr.heap.size, 0, 1, rfl, by simp, fun j hj => by
        have : j = 0 := by simp at hj; omega
        subst this
        exact hbx.cell 0 _ rfl⟩)
      obtain ⟨w2, hw2e⟩ : ∃ w2, wr.alloc (.cells #[.int .u8 (97 + (r : Int))] 5) = w2 := ⟨_, rfl⟩
      rw [hw2e] at hcv
      rw [show wr.alloc (.cells [Value.int .u8 (97 + (r : Int))].toArray 5) = w2 from hw2e] at hbx
      have HB := Lib.hid hbx
      have hlb2 : LB w2 W.heap.size F T J D d L C (2200 + 200) (fiT 12) := HLB.out.turn0 hbx.turn
      have HLB2 := Lib.hid hlb2
      have HT2 := Lib.hid (HT.out.trans hbx.turn (fun _ _ => id))
      clear hbx hlb2 hr
      go_wp2_with fail
      refine (drop_any w2 W.heap.size F T J D d L C 2200 (fiT 12) (nmS r) HLB2.out).mono ?_
      intro e w3 hdp
      clear hcv
      rcases hdp with ⟨h1, _⟩ | ⟨_, k, h1, _, hly⟩
      · rcases h1 with h1 | h1
        · exact absurd h1 (right_ne (nm_right ⟨r, by omega⟩))
        · rw [fi_name ⟨r, hr12⟩] at h1; cases h1
      rw [fi_name ⟨r, hr12⟩] at h1
      cases h1
      obtain ⟨rfl, F3, d3, L3, hlb3, ha3, hs3⟩ := hly.ok ha
      generalize putM C _ = C3 at hlb3
      have HLB3 := Lib.hid (show LB w3 W.heap.size F3 T J D d3 L3 C3 (2000 + 200) _ from hlb3)
      have HT3 := Lib.hid (show Turn (fun _ => False) W w3 from HT2.out.trans hs3.turn (fun k hk e => by have := HLB.out.bM k e; omega))
      clear hlb3 hs3 hly
      go_wp2_with (with_reducible (show wpList _ _ _ (Oper.mk (some 54) (.build 37 _) _ _ _ _ :: _) _ _); refine still ?_)
      refine list_exec rfl _ _ (exec_build37b _ _ _ _ rfl zS true rfl rfl _) ?_
      go_wp2_with fail
      refine (make_any w3 W.heap.size F3 T J D d3 L3 C3 2000 _ zR HLB3.out zR_ok).mono ?_
      intro e w4 hmk
      rcases hmk with ⟨h1, _⟩ | ⟨_, h1, _⟩ | ⟨_, _, h1, _⟩ | ⟨_, _, k, h1, hk12, hly⟩
      · rw [show zR.name = zS from rfl, z_right] at h1; cases h1
      · exact absurd (z_none ⟨r, hr12⟩) h1
      · rw [z_free ⟨r, hr12⟩] at h1; cases h1
      rw [z_free ⟨r, hr12⟩] at h1
      cases h1
      obtain ⟨rfl, F4, d4, L4, hlb4, ha4, hs4⟩ := hly.ok ha3
      generalize putM C3 _ = C4 at hlb4
      have HLB4 := Lib.hid (show LB w4 W.heap.size F4 T J D d4 L4 C4 (1800 + 200) _ from hlb4)
      have HT4 := Lib.hid (show Turn (fun _ => False) W w4 from HT3.out.trans hs4.turn (fun k hk e => by have := HLB3.out.bM k e; omega))
      clear hlb4 hs4 hly
      go_wp2_with fail
      refine (lawake_any w4 (HTAB.out.turn HT4.out)).mono ?_
      rintro e w5 ⟨rfl, t5⟩
      have HT5 := Lib.hid (HT4.out.trans t5 (fun _ _ => id))
      have HLB5 := Lib.hid (HLB4.out.turn0 t5)
      clear t5
      go_wp2_with (with_reducible (show wpList _ _ _ (Oper.mk (some 67) (.build 35 #[]) _ _ _ _ :: _) _ _); refine still ?_)
      refine list_want rfl _ _ (exec_build35z _ _ rfl _) ?_
      go_wp2_with fail
      refine (move_any w5 W.heap.size F4 T J D d4 L4 C4 1800 _ zS (List.replicate 32 0) HLB5.out (z_size ⟨r, hr12⟩) (by simp) (fun x hx => by rw [List.eq_of_mem_replicate hx]; omega)).mono ?_
      intro e w6 hmv
      rcases hmv with ⟨h1, _⟩ | ⟨_, k, h1, _, h2, rfl, t6⟩ | ⟨_, k, h1, _, h2, _⟩
      · rcases h1 with h1 | h1
        · exact absurd h1 (right_ne z_right)
        · rw [z_name ⟨r, hr12⟩] at h1; cases h1
      · have HT6 := Lib.hid (HT5.out.trans t6 (fun _ _ => id))
        have HLB6 := Lib.hid (HLB5.out.turn0 t6)
        clear t6
        go_wp2_with fail
        refine (all_any w6 T J _ HLB6.out.tb).mono ?_
        rintro e w7 ⟨g, c, l, rest, ex, rfl, hp, _, hlc, _, _, t7⟩
        have hl12 : l.length = 12 := by rw [hp.length_eq]; exact z_all ⟨r, hr12⟩
        rw [hl12]
        have HT7 := Lib.hid (HT6.out.trans t7 (fun _ _ => id))
        clear t7 hp hl12
        go_wp2_with fail
        go_ret
        exact ⟨rfl, HT7.out⟩
      · rw [z_name ⟨r, hr12⟩] at h1
        cases h1
        rw [z_get ⟨r, hr12⟩] at h2
        cases h2
end Go.Proofs.YtnenkclihgeacaaDoor
