/- Own: the walk of StampOf. -/
import Derived.Test.YtimajdbgeibalaaDoorRefN
import Derived.Test.YtimajdbgeibalaaDoorAwake
import Derived.Test.YtimajdbgeibalaaDoorSame
namespace Go.Proofs.YtimajdbgeibalaaDoor
open Go.RowKit
set_option linter.unusedVariables false
set_option linter.unusedSimpArgs false

theorem ref_any (v : Value) (ps : List Int) (w : World) (hv : Reads w v ps) (hps : ∀ x ∈ ps, 0 ≤ x ∧ x < 256) (hl : ps.length ≤ 300) :
    Calls Tryd.prog 11 #[v] w (KeyPost w (keyB (shaE firstE rootsL ps) 8)) := by
  rcases hv with ⟨rfl, rfl⟩ | ⟨g, o, cap, rfl, hc, hcell⟩
  · exact ref_none 0 [] w rfl rfl hps
  · exact ref_some ⟨g, o, none⟩ ps.length cap ps w rfl (.inl (.inr ⟨g, o, cap, rfl, hc, hcell⟩)) hps hl

set_option maxHeartbeats 2000000 in
set_option maxRecDepth 100000 in
theorem sof_walk (v : Value) (ps : List Int) (w : World) (hv : Reads w v ps) (hps : ∀ x ∈ ps, 0 ≤ x ∧ x < 256) (hml : ps.length ≤ maxLen) (ht : Tables w) : Calls Tryd.prog 3 #[v] w fun e w' => e = .returned (.bool true) ∧ Turn (fun _ => False) w w' := by
  have HV := Lib.hid hv
  have HPS := Lib.hid hps
  have HT := Lib.hid ht
  obtain ⟨a, c, rfl⟩ := reads_slice hv
  clear hv hps ht
  obtain ⟨n, hn⟩ : ∃ n, ps.length = n := ⟨_, rfl⟩
  rw [hn] at HV hml ⊢
  have HN := Lib.hid hn
  clear hn
  by_cases hlt : n ≤ 300
  · have d1 : decide ((300 : Int) < (n : Int)) = false := by simp; omega
    go_enter Tryd.func3, Tryd.ntmps3
    go_wp2_with fail
    refine (awake_any _ HT.out).mono ?_
    rintro e w2 ⟨rfl, t2⟩
    have T2 := t2
    have HR2 := Lib.hid (HV.out.turn t2 (fun _ _ => id))
    clear t2
    go_wp2_with fail
    refine (of_any _ ps rootsL firstE w2 HR2.out (by rw [HN.out]; omega) (HT.out.turn T2).1 (HT.out.turn T2).2).mono ?_
    rintro e w3 ⟨rfl, t3⟩
    have T3 := T2.trans t3 (fun _ _ => id)
    have hkl := keyB_len (shaE firstE rootsL ps) 8
    have hr := ref_any (.slice a n c) ps w3 (HR2.out.turn t3 (fun _ _ => id)) HPS.out (by rw [HN.out]; omega)
    generalize keyB (shaE firstE rootsL ps) 8 = kb at hkl hr ⊢
    have HKL := Lib.hid hkl
    have HRR := Lib.hid hr
    clear hkl t3 T2 HR2 hr
    go_wp2_with fail
    refine HRR.out.mono ?_
    rintro e w4 ⟨rfl, t4⟩
    have T4 := T3.trans t4 (fun _ _ => id)
    have hsame : ∀ w, (binOp .eql 25 (.agg (kb.map (Value.int .u8)).toArray) (.agg (kb.map (Value.int .u8)).toArray)).run Tryd.prog w = .ok (.bool true) w := fun w => by
      have := run_same 25 32 Tryd.underlying25 kb kb HKL.out HKL.out w
      rw [this]; simp
    clear t4 T3
    go_wp2_with fail
    go_ret
    exact ⟨rfl, T4⟩
  · have d1 : decide ((300 : Int) < (n : Int)) = true := by simp; omega
    go_enter Tryd.func3, Tryd.ntmps3
    go_wp2_with fail
    refine (awake_any _ HT.out).mono ?_
    rintro e w2 ⟨rfl, t2⟩
    go_wp2_with fail
    refine (awake_any _ (HT.out.turn t2)).mono ?_
    rintro e w3 ⟨rfl, t3⟩
    go_wp2_with fail
    go_ret
    exact ⟨rfl, t2.trans t3 (fun _ _ => id)⟩
end Go.Proofs.YtimajdbgeibalaaDoor
