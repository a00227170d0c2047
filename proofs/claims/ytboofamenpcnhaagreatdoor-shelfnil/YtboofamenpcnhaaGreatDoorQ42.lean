/- Own texts, packed: Shnil. -/
import Derived.Test.YtboofamenpcnhaaGreatDoorQ40
/- ShelfNil's walk. No statement is proved here. -/
namespace Go.Proofs.YtboofamenpcnhaaGreatDoor
set_option maxRecDepth 100000
open Go.RowKit Go.Shelf
set_option linter.unusedVariables false
set_option linter.unusedSimpArgs false

theorem info23 : (Tryz.prog.info? 23).map (·.size) = some 32 := by kernel_rfl
theorem info23k {k : List Int} (h : k.length = 32) : (Tryz.prog.info? 23).map (·.size) = some (keyV k).length := by rw [keyV, List.length_map, h]; exact info23
set_option maxHeartbeats 8000000 in
theorem snil_walk (w : World) (f : Eight) (ks : List Int) (tb : Tb w f ks) (v : Value) (xs : List Int) (hv : Src w v xs) (hxl : xs.length ≤ 9223372036854775807) (key : List Int) (hk : key.length = 32) (n : Int) (hn : 0 ≤ n ∧ n < 256) :
    Calls Tryz.prog 5 #[v, .agg (keyV key).toArray, .int .u8 n] w fun e w' => e = .returned (.bool true) ∧ Turn (fun _ => False) w w' := by
  have hz32 := zero32
  have HTB := Lib.hid tb
  obtain ⟨va, vc, rfl, -⟩ := src_any hv
  obtain ⟨Z, hZ⟩ : ∃ Z, xs.length = Z := ⟨_, rfl⟩
  rw [hZ] at hxl ⊢
  have hb1 := box_alloc w 23 (keyV key)
  have hr1 := hb1.range
  obtain ⟨w1, hw1⟩ : ∃ w1, w.alloc (.cells (keyV key).toArray 23) = w1 := ⟨_, rfl⟩
  rw [hw1] at hb1 hr1
  have HB1 := Lib.hid hb1
  have HR1 := Lib.hid hr1
  clear tb hv hZ hb1 hr1
  go_enter Tryz.func5, Tryz.ntmps5
  go_wp2_with fail
  refine (sawake_any w1 f ks (HTB.out.turn0 HB1.out.turn)).mono ?_
  rintro e w2 ⟨rfl, t2⟩
  have HT2 := Lib.hid t2
  have HW2 := Lib.hid (HB1.out.turn.trans t2 (fun _ _ => id))
  clear t2
  by_cases hlong : 100 < Z
  · have hd : decide ((Z : Int) > 100) = true := by simp; omega
    have hd2 : decide (100 < (Z : Int)) = true := by simp; omega
    go_wp2_with fail
    refine (sawake_any w2 f ks (HTB.out.turn0 HW2.out)).mono ?_
    rintro e w3 ⟨rfl, t3⟩
    have HW3 := Lib.hid (HW2.out.trans t3 (fun _ _ => id))
    clear t3
    go_wp2_with fail
    go_ret
    exact ⟨rfl, HW3.out⟩
  have hd : decide ((Z : Int) > 100) = false := by simp; omega
  have hd2 : decide (100 < (Z : Int)) = false := by simp; omega
  go_wp2_with fail
  refine (sput_nil _ w2).mono ?_
  rintro e w3 ⟨rfl, t3⟩
  have HT3 := Lib.hid (HT2.out.trans t3 (fun _ _ => id))
  clear t3
  go_wp2_with (with_reducible (show wpList _ _ _ (Oper.mk none (.store 32 (.tmp 8) (.tmp 32)) _ _ _ _ :: _) _ _); refine still ?_)
  refine list_box w3 32 z32 z32 rfl (fun v hv => by obtain ⟨x, _, rfl⟩ := List.mem_map.1 hv; rfl) info32 rfl (.tmp 8) (.tmp 32) rfl rfl rfl ?_
  intro w4 hB4
  have HT4 := Lib.hid (HT3.out.trans hB4.turn (fun _ _ => id))
  clear hB4
  have hr4 : w4.rangeAt w.heap.size 0 (keyV key) := rangeAt_turn HR1.out HT4.out id
  go_wp2_with (with_reducible (show wpList _ _ _ (Oper.mk (some 36) (.load 23 (.tmp 4)) _ _ _ _ :: _) _ _); refine still ?_)
  refine list_load rfl 23 (.tmp 4) rfl w.heap.size 0 rfl (keyV key) _ hr4 Tryz.underlying23 rfl (info23k hk) ?_
  clear hr4
  go_wp2_with fail
  refine (get_nil key hk w4).mono ?_
  rintro e w5 ⟨rfl, t5⟩
  have HT5 := Lib.hid (HT4.out.trans t5 (fun _ _ => id))
  clear t5
  go_wp2_with fail
  refine (left_nil w5).mono ?_
  rintro e w6 ⟨rfl, h9⟩
  rw [h9]
  clear h9 w6
  go_wp2_with fail
  refine (settle_nil w5).mono ?_
  rintro e w7 ⟨rfl, t7⟩
  have HT7 := Lib.hid (HT5.out.trans t7 (fun _ _ => id))
  clear t7
  obtain ⟨m, hm, hm6⟩ : ∃ m : Nat, n.tmod 60 = (m : Int) ∧ m < 60 := ⟨(n % 60).toNat, by rw [Int.tmod_eq_emod_of_nonneg (by omega)]; omega, by omega⟩
  have hwm : IntKind.i64.wrap (50 + (m : Int)) = 50 + (m : Int) := by rw [IntKind.wrap_i64]; omega
  have hnew := new_h w7 (50 + m) 1100 (by omega) (by omega)
  rw [show ((50 + m : Nat) : Int) = 50 + (m : Int) by omega] at hnew
  have HN := Lib.hid hnew
  clear hnew
  go_wp2_with fail
  refine HN.out.mono ?_
  rintro e w8 ⟨D, F, rfl, hd8, hF8, t8⟩
  have HD := Lib.hid hd8
  have HF := Lib.hid hF8
  have HT8 := Lib.hid t8
  clear hd8 hF8 t8
  go_wp2_with fail
  refine (open_h w8 F D (newM (50 + m)) 0 _ 1000 HD.out rfl (by omega)).mono ?_
  rintro e w9 ⟨J, F9, d9, L9, rfl, hj, ha, hJ, hst, hL⟩
  have HJ := Lib.hid hj
  have HT9 := Lib.hid (show Turn (fun _ => False) w1 w9 from (HT7.out.trans HT8.out (fun _ _ => id)).trans hst.turn (fun k hk e => by have := HF.out k e; have := HT7.out.size; omega))
  clear hj hst ha
  go_wp2_with fail
  refine (open_small w9 F9 J D d9 L9 1000 _ HJ.out (by simp; omega)).mono ?_
  rintro e w10 ⟨rfl, h9⟩
  rw [h9]
  clear h9 w10
  have hr9 : w9.rangeAt w.heap.size 0 (keyV key) := rangeAt_turn HR1.out HT9.out id
  go_wp2_with (with_reducible (show wpList _ _ _ (Oper.mk (some 88) (.load 23 (.tmp 4)) _ _ _ _ :: _) _ _); refine still ?_)
  refine list_load rfl 23 (.tmp 4) rfl w.heap.size 0 rfl (keyV key) _ hr9 Tryz.underlying23 rfl (info23k hk) ?_
  go_wp2_with fail
  refine (has_nil key hk w9).mono ?_
  rintro e w11 ⟨rfl, t11⟩
  have HT11 := Lib.hid (HT9.out.trans t11 (fun _ _ => id))
  clear t11 hr9
  go_wp2_with fail
  refine (keys_nil w11).mono ?_
  rintro e w12 ⟨rfl, t12⟩
  have HT12 := Lib.hid (HT11.out.trans t12 (fun _ _ => id))
  clear t12
  have hr12 : w12.rangeAt w.heap.size 0 (keyV key) := rangeAt_turn HR1.out HT12.out id
  go_wp2_with (with_reducible (show wpList _ _ _ (Oper.mk (some 100) (.load 23 (.tmp 4)) _ _ _ _ :: _) _ _); refine still ?_)
  refine list_load rfl 23 (.tmp 4) rfl w.heap.size 0 rfl (keyV key) _ hr12 Tryz.underlying23 rfl (info23k hk) ?_
  go_wp2_with fail
  refine (drop_nil key hk w12).mono ?_
  rintro e w13 ⟨rfl, t13⟩
  have HT13 := Lib.hid (HB1.out.turn.trans (HT12.out.trans t13 (fun _ _ => id)) (fun _ _ => id))
  clear t13 hr12
  go_wp2_with fail
  go_ret
  exact ⟨rfl, HT13.out⟩
end Go.Proofs.YtboofamenpcnhaaGreatDoor
