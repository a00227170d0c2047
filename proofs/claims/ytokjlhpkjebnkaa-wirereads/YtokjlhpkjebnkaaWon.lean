/- Own contracts: one element, as plain as can be. No statement is proved here. -/
import Derived.Test.YtokjlhpkjebnkaaAw
namespace Go.Proofs.Ytokjlhpkjebnkaa
set_option maxRecDepth 100000
open Go.RowKit
set_option linter.unusedVariables false
set_option linter.unusedSimpArgs false


set_option maxHeartbeats 4000000 in
theorem wone_law (w : World) (idv kind : Int) (hi : 0 ≤ idv ∧ idv < 65536) (hk : 0 ≤ kind ∧ kind < 256) : Calls Try.prog 11 #[.int .u16 idv, .int .u8 kind] w fun r w' => r = .returned (.bool true) ∧ Turn (fun _ => False) w w' := by
  obtain ⟨n, hn⟩ : ∃ n, 1 + idv % 127 = n := ⟨_, rfl⟩
  obtain ⟨k, hkk⟩ : ∃ k, kind % 128 = k := ⟨_, rfl⟩
  have hn1 : 1 ≤ n ∧ n ≤ 127 := by omega
  have hk1 : 0 ≤ k ∧ k < 128 := by omega
  have t1 : idv.tmod 127 = idv % 127 := Int.tmod_eq_emod_of_nonneg hi.1
  have t2 : kind.tmod 128 = kind % 128 := Int.tmod_eq_emod_of_nonneg hk.1
  go_enter Try.func11, Try.ntmps11
  go_wp2_with (with_reducible (show wpList _ _ _ (Oper.mk (some 16) _ _ _ _ _ :: _) _ _); refine still ?_)
  refine list_exec rfl _ _ (exec_build_nk _ _ (.tmp 13) (.tmp 15) n k rfl rfl rfl _) ?_
  go_wp2_with (with_reducible (show wpList _ _ _ (Oper.mk (some 17) _ _ _ _ _ :: _) _ _); refine still ?_)
  refine list_exec rfl _ _ (exec_build_one _ _ (.tmp 16) 26 Try.underlying26 rfl (El.nk n k) rfl _) ?_
  have hone := one_rowV (w := w) (El.nk n k)
  have hbx := (box_alloc w 24 (El.nk n k).vals).turn
  obtain ⟨G, hG⟩ : ∃ G, w.heap.size = G := ⟨_, rfl⟩
  rw [hG] at hone
  obtain ⟨w1, hw1⟩ : ∃ w1, w.alloc (.cells (El.nk n k).vals.toArray 24) = w1 := ⟨_, rfl⟩
  rw [hw1] at hone hbx
  have HONE := Lib.hid hone
  have T1 := Lib.hid hbx
  have HKK := Lib.hid hkk
  clear hone hbx hn hkk
  go_wp2_with fail
  clear hw1 hG
  refine (encode_any w1 _ [El.nk n k] HONE.out (fun x hx => by rw [List.mem_singleton.1 hx]; show 0 ≤ k ∧ k ≤ 255; omega) (by simp)).mono ?_
  rintro e w2 ⟨t2, ⟨h, _⟩ | ⟨_, v, rfl, ho⟩⟩
  · rw [right_one n k hn1] at h; cases h
  · rw [bytes_one n k hn1 hk1] at ho
    have T2 := Lib.hid (T1.out.trans t2 (fun _ _ => id))
    have HO := Lib.hid ho
    obtain ⟨va, vc, hv⟩ := own_slice ho
    subst hv
    clear ho t2
    go_wp2_with fail
    refine (awake10 w2).mono ?_
    rintro e w3 ⟨rfl, t3⟩
    have T3 := Lib.hid (T2.out.trans t3 (fun _ _ => id))
    have hcv : (convert 49 9 (.slice va 13 vc)).run Try.prog w3 = .ok (.string (strOfNums [67, 49, 129, n + 128, k + 128, 128, 128, 128, 128, 128, 128, 128, 128])) w3 := conv_own (t3.owns HO.out (fun _ _ => id))
    have hu1 : IntKind.u8.wrap n = n := by rw [IntKind.wrap_u8']; omega
    have hu2 : IntKind.u8.wrap (n + 128) = n + 128 := by rw [IntKind.wrap_u8']; omega
    have hu3 : IntKind.u8.wrap (k + 128) = k + 128 := by rw [IntKind.wrap_u8']; omega
    have hkk : kind % 128 = k := HKK.out
    have hrd := reads_block w3 [n + 128, k + 128, 128, 128, 128, 128, 128, 128, 128, 128] rfl
    have hcv2 := hrd.conv
    have t4 : Turn (fun _ => False) w3 (w3.alloc (.cells (([n + 128, k + 128, 128, 128, 128, 128, 128, 128, 128, 128] : List Int).map (Value.int .u8)).toArray 5)) := (Turn.refl _ w3).alloc _
    have hxt : ∀ ev op x y, op.op = .buildSlice 49 10 #[(0, x), (1, y), (2, .const (.int .u8 128)), (3, .const (.int .u8 128)), (4, .const (.int .u8 128)), (5, .const (.int .u8 128)), (6, .const (.int .u8 128)), (7, .const (.int .u8 128)), (8, .const (.int .u8 128)), (9, .const (.int .u8 128))] → ev (.const (.int .u8 128)) = .int .u8 128 → ev x = .int .u8 (n + 128) → ev y = .int .u8 (k + 128) → (execOp ev op).run Try.prog w3 = .ok (.value (.slice (some ⟨w3.heap.size, 0, none⟩) 10 10)) (w3.alloc (.cells (([n + 128, k + 128, 128, 128, 128, 128, 128, 128, 128, 128] : List Int).map (Value.int .u8)).toArray 5)) := fun ev op x y ho hc hx hy => exec_ten ev op x y _ _ ho hc hx hy w3
    obtain ⟨g, hg⟩ : ∃ g, w3.heap.size = g := ⟨_, rfl⟩
    obtain ⟨w4, hw4⟩ : ∃ w4, w3.alloc (.cells (([n + 128, k + 128, 128, 128, 128, 128, 128, 128, 128, 128] : List Int).map (Value.int .u8)).toArray 5) = w4 := ⟨_, rfl⟩
    rw [hw4] at hcv2 t4 hxt
    rw [hg] at hcv2 hxt
    have HXT := Lib.hid hxt
    have T4 := Lib.hid (T3.out.trans t4 (fun _ _ => id))
    have hsq : ((strOfNums [67, 49, 129, n + 128, k + 128, 128, 128, 128, 128, 128, 128, 128, 128]).toList == (({ data := #[67, 49, 129] } : ByteArray) ++ strOfNums [n + 128, k + 128, 128, 128, 128, 128, 128, 128, 128, 128]).toList) = true := by
      rw [name_eq, decide_eq_true_eq]
      apply toList_inj
      rw [toList_nums, ByteArray.toList_eq, ByteArray.data_append, Array.toList_append, strOfNums_data]
      rfl
    obtain ⟨S1, hS1⟩ : ∃ S, strOfNums [67, 49, 129, n + 128, k + 128, 128, 128, 128, 128, 128, 128, 128, 128] = S := ⟨_, rfl⟩
    obtain ⟨S2, hS2⟩ : ∃ S, strOfNums [n + 128, k + 128, 128, 128, 128, 128, 128, 128, 128, 128] = S := ⟨_, rfl⟩
    rw [hS1] at hcv hsq
    rw [hS2] at hcv2 hsq
    have hsz1 : S1.size = 13 := by rw [← hS1]; rfl
    have hsz2 : S2.size = 10 := by rw [← hS2]; rfl
    have HSQ := Lib.hid hsq
    clear t3 t4 hrd hxt hw4 hg hS1 hS2
    go_wp2_with (with_reducible (show wpList _ _ _ (Oper.mk (some 35) _ _ _ _ _ :: _) _ _); refine still ?_)
    refine wpList_exec_want (by rfl) _ _ (HXT.out _ _ (.tmp 31) (.tmp 34) rfl rfl rfl rfl) ?_
    have hsq := HSQ.out
    go_wp2_with fail
    go_ret
    exact ⟨by first | rfl | simp, T4.out⟩
end Go.Proofs.Ytokjlhpkjebnkaa
