/- ShelfOnce's walk. No statement is proved here. -/
import Derived.Test.YtboofamenpcnhaaGreatDoorR02
import Derived.Test.YtboofamenpcnhaaGreatDoorR00
namespace Go.Proofs.YtboofamenpcnhaaGreatDoor
set_option maxRecDepth 100000
open Go.RowKit Go.Shelf
set_option linter.unusedVariables false
set_option linter.unusedSimpArgs false

theorem acts_head (D : Nat) (h : HeadM) (w : World) (hd : Head w D h) : Calls Tryz.prog 25 #[.pointer (some ⟨D, 0, none⟩)] w fun e w' => e = .returned (.int .i64 (h.acts : Int)) ∧ w' = w := by
  have c2 : w.cell? ⟨D, 2, none⟩ = some (.int .i64 (h.acts : Int)) := by rw [hd.cell]; rfl
  clear hd
  go_enter Tryz.func25, Tryz.ntmps25
  go_wp2_with fail
  go_ret
  exact ⟨rfl, rfl⟩
theorem acts_dh (w : World) (F : Nat → Prop) (D : Nat) (d : DiskM) (h : DH w F D d) : Calls Tryz.prog 25 #[.pointer (some ⟨D, 0, none⟩)] w fun e w' => e = .returned (.int .i64 (d.acts : Int)) ∧ w' = w := by
  obtain ⟨⟨S, sc, wv, hd⟩, hl⟩ := h
  exact acts_head D _ w hd.head
set_option maxHeartbeats 8000000 in
theorem sonce_walk (w : World) (f : Eight) (ks : List Int) (tb : Tb w f ks) (v : Value) (ps : List Int) (hv : Src w v ps) (hbo : BytesOk ps) (hown : ∀ k, v.ownBlock = some k → 0 < ps.length → k < w.heap.size) (hcap : ∀ a l c, v = .slice a l c → c ≤ 9223372036854775807) (n : Int) (hn : 0 ≤ n ∧ n < 256) :
    Calls Tryz.prog 7 #[v, .int .u8 n] w fun e w' => e = .returned (.bool true) ∧ Turn (fun _ => False) w w' := by
  have hz := zero32
  have HTB := Lib.hid tb
  have HV := Lib.hid hv
  have HBO := Lib.hid hbo
  have HOWN := Lib.hid hown
  obtain ⟨va, vc, rfl, -⟩ := src_any hv
  have hcap9 := hcap _ _ _ rfl
  obtain ⟨Z, hZ⟩ : ∃ Z, ps.length = Z := ⟨_, rfl⟩
  rw [hZ] at HV HOWN ⊢
  have HZ := Lib.hid hZ
  clear tb hv hbo hown hZ hcap
  go_enter Tryz.func7, Tryz.ntmps7
  go_wp2_with fail
  refine (sawake_any w f ks HTB.out).mono ?_
  rintro e w1 ⟨rfl, t1⟩
  have HT1 := Lib.hid t1
  clear t1
  by_cases hskip : Z = 0 ∨ 300 < Z
  · have haw : ∀ w1, Turn (fun _ => False) w w1 → Calls Tryz.prog 8 #[] w1 fun e w' => e = .returned (.bool true) ∧ Turn (fun _ => False) w1 w' := fun w1 t => sawake_any w1 f ks (HTB.out.turn0 t)
    have HAW := Lib.hid haw
    clear haw
    by_cases h0 : Z = 0
    · subst h0
      go_wp2_with fail
      refine (HAW.out w1 HT1.out).mono ?_
      rintro e w2 ⟨rfl, t2⟩
      have HT2 := Lib.hid (HT1.out.trans t2 (fun _ _ => id))
      clear t2
      go_wp2_with fail
      go_ret
      exact ⟨rfl, HT2.out⟩
    · have h3 : 300 < Z := by omega
      have hz0 : ¬ ((Z : Int) = 0) := by omega
      have hd : decide ((Z : Int) > 300) = true := by simp; omega
      have hd2 : decide (300 < (Z : Int)) = true := by simp; omega
      go_wp2_with fail
      refine (HAW.out w1 HT1.out).mono ?_
      rintro e w2 ⟨rfl, t2⟩
      have HT2 := Lib.hid (HT1.out.trans t2 (fun _ _ => id))
      clear t2
      go_wp2_with fail
      go_ret
      exact ⟨rfl, HT2.out⟩
  have hz0 : ¬ ((Z : Int) = 0) := by omega
  have hz1 : ¬ (Z = 0) := by omega
  have hd : decide ((Z : Int) > 300) = false := by simp; omega
  have hd2 : decide (300 < (Z : Int)) = false := by simp; omega
  have hrd : Reads w (.slice va Z vc) ps := by
    rcases HV.out with h | ⟨x, c, h1, h2⟩
    · exact h
    · have := HZ.out; rw [h2] at this; simp at this; omega
  obtain ⟨g, o, rfl, hzl, hcc⟩ : ∃ g o, va = some ⟨g, o, none⟩ ∧ Z ≤ vc ∧ ∀ i, i < ps.length → w.cell? ⟨g, o + i, none⟩ = some (.int .u8 (ps.getD i 0)) := by
    rcases hrd with ⟨_, h2⟩ | ⟨g, o, cap, h1, h2, h3⟩
    · have := HZ.out; rw [h2] at this; simp at this; omega
    · have h4 := HZ.out
      rw [h4] at h1 h2
      cases h1
      exact ⟨g, o, rfl, h2, h3⟩
  have hzc : Z ≤ vc ∧ vc ≤ 9223372036854775807 := ⟨hzl, hcap9⟩
  have HCC := Lib.hid hcc
  have HRD := Lib.hid hrd
  clear hrd hcc hzl hcap9
  obtain ⟨key, hkey⟩ : ∃ key, keyB (shaE f ks ps) 8 = key := ⟨_, rfl⟩
  have hkl : key.length = 32 := by rw [← hkey]; exact keyB_len _ 8
  have HKEY := Lib.hid hkey
  clear hkey
  have hfr := fresh_any w1 10 400 f ks (HTB.out.turn0 HT1.out) (by omega) (by omega)
  have HFR := Lib.hid hfr
  clear hfr
  go_wp2_with fail
  refine HFR.out.mono ?_
  rintro e w2 ⟨D, S, J, M, F, G, d, L, rfl, hs, t2⟩
  have HS2 := Lib.hid hs
  have HT2 := Lib.hid (HT1.out.trans t2 (fun _ _ => id))
  clear hs t2
  have hgw : g < w.heap.size := World.block_lt_of_cell? _ _ (HCC.out 0 (by have := HZ.out; omega))
  have hw1s := HT1.out.size
  go_wp2_with fail
  refine (put_first w2 w1.heap.size F G S J M D d L (blank 10) 200 10 f ks HS2.out ps Z HZ.out (by omega) (by omega) (by unfold secN; omega) HBO.out g o vc hzc.1 hzc.2
    (fun i hi => (HT2.out.cell (p := ⟨g, o + i, none⟩) (World.block_lt_of_cell? _ _ (HCC.out i hi)) id).trans (HCC.out i hi)) (fun hm => by have := HS2.out.bM _ hm; omega)).mono ?_
  rintro e w3 ⟨rfl, F3, G3, d3, L3, hs3, hst3⟩
  rw [HKEY.out]
  have HS3 := Lib.hid hs3
  have HT3 := Lib.hid (show Turn (fun _ => False) w w3 from HT2.out.trans hst3.turn (fun k hk e => by have := HS2.out.bM k e; omega))
  clear hs3 hst3
  go_wp2_with (with_reducible (show wpList _ _ _ (Oper.mk none (.store 32 (.tmp 8) (.tmp 38)) _ _ _ _ :: _) _ _); refine still ?_)
  refine list_box w3 32 z32 (keyV key) (by simp [keyV, hkl, z32]) (fun v hv => by obtain ⟨x, _, rfl⟩ := List.mem_map.1 hv; rfl) (info32k hkl) rfl (.tmp 8) (.tmp 38) rfl rfl rfl ?_
  intro w4 hB4
  obtain ⟨B4, hB4'⟩ : ∃ B4, w3.heap.size = B4 := ⟨_, rfl⟩
  have hr4 := hB4.range
  rw [hB4'] at hr4 ⊢
  have HR4 := Lib.hid hr4
  have HS4 := Lib.hid (HS3.out.turn0 hB4.turn)
  have HT4 := Lib.hid (HT3.out.trans hB4.turn (fun _ _ => id))
  clear hB4 hr4 hB4'
  have hac : ∀ wr, Turn (fun _ => False) w4 wr → Calls Tryz.prog 25 #[.pointer (some ⟨D, 0, none⟩)] wr fun e w' => e = .returned (.int .i64 (d3.acts : Int)) ∧ w' = wr := fun wr t => acts_dh wr F3 D d3 (HS4.out.turn0 t).jc.jh.dh
  have HAC := Lib.hid hac
  clear hac
  go_wp2_with fail
  refine (HAC.out w4 (Turn.refl _ _)).mono ?_
  rintro e w5 ⟨rfl, h9⟩
  rw [h9]
  clear h9 w5
  obtain ⟨m, hm, hm6⟩ : ∃ m : Nat, n.tmod 20 = (m : Int) ∧ m < 20 := ⟨(n % 20).toNat, by rw [Int.tmod_eq_emod_of_nonneg (by omega)]; omega, by omega⟩
  go_wp2_with fail
  go_loopw [11] (fun iv wr => ∃ k : Nat, k ≤ m ∧ iv = .int .i64 (k : Int) ∧ Turn (fun _ => False) w4 wr) (fun iv _ => (m - intOf iv).toNat)
  case atStart => exact ⟨0, by omega, rfl, Turn.refl _ _⟩
  case round =>
    obtain ⟨k, hk, rfl, hT⟩ := hrel
    have HTr := Lib.hid hT
    clear hT
    by_cases hlt : k < m
    · have hdk : decide ((k : Int) < (m : Int)) = true := by simp; omega
      have hap := run_append_src wr wr.heap.size (.slice none 0 0) (.slice (some ⟨g, o, none⟩) Z vc) 0 [] ps (World.ownsRow_nil wr _ _ _) (.inl (HRD.out.turn (HT4.out.trans HTr.out (fun _ _ => id)) (fun _ _ => id))) (Nat.le_refl _) (by have := HZ.out; omega)
      obtain ⟨v5, w5, hrun, hrow, t5, _⟩ := hap
      have ht5 : Turn (fun _ => False) wr w5 := t5.mono (fun q _ h => by cases h)
      rw [Nat.zero_add, List.nil_append, HZ.out] at hrow
      obtain ⟨g5, c5, rfl, hg5, hc5, hce5⟩ : ∃ g5 c5, v5 = .slice (some ⟨g5, 0, none⟩) Z c5 ∧ wr.heap.size ≤ g5 ∧ (Z ≤ c5 ∧ c5 ≤ 9223372036854775807) ∧ ∀ i, i < ps.length → w5.cell? ⟨g5, 0 + i, none⟩ = some (.int .u8 (ps.getD i 0)) := by
        have hrd5 : Reads w5 v5 ps := Reads.of_owns (base := wr.heap.size) (by rw [HZ.out]; exact hrow)
        rcases hrow.2 with ⟨_, h0⟩ | ⟨g5, c5, cur, rfl, h1, h2, h3, h4, _⟩
        · omega
        · rcases hrd5 with ⟨h5, _⟩ | ⟨g6, o6, c6, h5, _, h7⟩
          · cases h5
          · cases h5
            exact ⟨g5, c5, rfl, h1, ⟨h3, by unfold maxLen at h4; omega⟩, h7⟩
      have HRUN := Lib.hid hrun
      have HCE5 := Lib.hid hce5
      have HT5 := Lib.hid (HTr.out.trans ht5 (fun _ _ => id))
      have hws := HTr.out.size
      clear hrow t5 ht5 hce5 hrun
      go_wp2_with (with_reducible (show wpList _ _ _ (Oper.mk (some 52) _ _ _ _ _ :: _) _ _); refine still ?_)
      refine list_exec rfl _ _ (exec_append _ _ (.const (.slice none 0 0)) (.tmp 51) 29 rfl _ _ _ wr w5 rfl rfl HRUN.out) ?_
      go_wp2_with fail
      refine (put_again w5 w1.heap.size F3 G3 S J M D d3 L3 _ 0 10 _ _ f ks (HS4.out.turn0 HT5.out) ps Z HZ.out (by omega) (by omega) (bl_has (obOf f ks ps 0) (by show (0 : Int) < (ps.length : Int); have := HZ.out; omega)) HBO.out g5 0 c5 hc5.1 hc5.2 HCE5.out (fun hm => by have := HS4.out.lt _ hm; omega)).mono ?_
      rintro e w6 ⟨rfl, t6⟩
      rw [HKEY.out]
      have HT6 := Lib.hid (HT5.out.trans t6 (fun _ _ => id))
      clear t6
      go_wp2_with (with_reducible (show wpList _ _ _ (Oper.mk none (.store 32 (.tmp 12) (.tmp 54)) _ _ _ _ :: _) _ _); refine still ?_)
      refine list_box w6 32 z32 (keyV key) (by simp [keyV, hkl, z32]) (fun v hv => by obtain ⟨x, _, rfl⟩ := List.mem_map.1 hv; rfl) (info32k hkl) rfl (.tmp 12) (.tmp 54) rfl rfl rfl ?_
      intro w7 hB7
      obtain ⟨B7, hB7'⟩ : ∃ B7, w6.heap.size = B7 := ⟨_, rfl⟩
      have hr77 := hB7.range
      rw [hB7'] at hr77 ⊢
      have HT7 := Lib.hid (HT6.out.trans hB7.turn (fun _ _ => id))
      have hr47 : w7.rangeAt B4 0 (keyV key) := rangeAt_turn HR4.out HT7.out id
      have heq : (Op.equalIn 10000 32 (.agg (keyV key).toArray) (.agg (keyV key).toArray)).run Tryz.prog w7 = .ok (key == key) w7 := equalIn_bytes 32 32 9998 Tryz.underlying32 key key hkl hkl w7
      rw [show (key == key) = true by simp] at heq
      clear hB7 hB7'
      go_wp2_with (with_reducible (show wpList _ _ _ (Oper.mk (some 59) (.load 32 (.tmp 12)) _ _ _ _ :: _) _ _); refine still ?_)
      refine list_load rfl 32 (.tmp 12) rfl B7 0 rfl (keyV key) _ hr77 Tryz.underlying32 rfl (info32k hkl) ?_
      go_wp2_with (with_reducible (show wpList _ _ _ (Oper.mk (some 60) (.load 32 (.tmp 8)) _ _ _ _ :: _) _ _); refine still ?_)
      refine list_load rfl 32 (.tmp 8) rfl B4 0 rfl (keyV key) _ hr47 Tryz.underlying32 rfl (info32k hkl) ?_
      go_wp2_with fail
      go_roundw
      case rel => exact ⟨k + 1, by omega, by go_num, HT7.out⟩
      case measure => simp [intOf]; omega
    · have hdk : decide ((k : Int) < (m : Int)) = false := by simp; omega
      go_wp2_with fail
      refine (HAC.out wr HTr.out).mono ?_
      rintro e w5 ⟨rfl, h9⟩
      rw [h9]
      clear h9 w5
      have hS5 := HS4.out.turn0 HTr.out
      have hke := keys_one wr S J M _ hS5.sh (nOb_one _ (by show (0 : Int) < (ps.length : Int); have := HZ.out; omega) _)
      have HKE := Lib.hid hke
      clear hS5 hke
      go_wp2_with fail
      refine HKE.out.mono ?_
      rintro e w6 ⟨a, c, rfl, t6⟩
      have HT6 := Lib.hid ((HT4.out.trans HTr.out (fun _ _ => id)).trans t6 (fun _ _ => id))
      clear t6
      go_wp2_with fail
      go_ret
      exact ⟨rfl, HT6.out⟩
end Go.Proofs.YtboofamenpcnhaaGreatDoor
